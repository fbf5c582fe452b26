import PyProof.Rows.All
import Wide.All
import OpenK.AllK
import Wide.FinOn
import PyProof.EqAt
import PyProof.EqKinds
import PyProof.TupleCall
import HandS.ForMost
import HandS.ForExc
import HandS.Gcd
import HandS.Wide
import HandS.Style
import HandS.Flow
import HandS.ExcIs
import KE.RegKIsAll
import HandS.Zip0
import PyProof.EnumIter
import PyProof.StrLoop
import PyProof.EnumFor
import PyProof.EnumMake
import PyProof.ListStr
import PyProof.SumWalkG
import PyProof.WalksMore
import PyProof.TupleOfStr
import HandS.IsInst
import HandS.Text
import HandS.Strs
import HandS.StrMore
import HandS.Replace
import KE.KMathGC
import HandS.Sort
import HandS.TupAny
import HandS.TupMul
import HandS.Deep
import HandS.Rev
import HandS.NoneIn
import HandS.More
import HandS.Conv
import HandS.SetFor
import HandS.TupSets
import HandS.SortInts
import PyProof.SeqIndex
import HandS.TryOnly
import KE.KDictLaws
import PyProof.StrLawsIn
import PySem.Challenge.RW_veiledchains_k08_what_are_views_and_cour
set_option Elab.async false
set_option linter.all false
set_option maxHeartbeats 4000000
set_option maxRecDepth 100000
/-! VB1: defs that show data (repr): the promise of a def where no repr is under way further up. -/
namespace VB
open PySem PySem.Spec PyProof.Rows L2
/-! ### promises of defs that call repr: nothing is being shown around them -/
abbrev Gu (b : Heap) (A : Around) : Prop := A.guards = some [] ∧ b.NoDigits
structure FnG (P : Program) (w : World) (K : PySem.W.Frag) (mg : Str → Option Value) (base : Heap) (CX : CXT) (k : Nat)
    (f : Addr) (fd : FuncData) (ps : List Str) (sp : Sp) : Prop where
  len : ∀ vs H Q E, sp vs H Q E → vs.length = ps.length
  run : ∀ (A : Around) (out : List Env) (s : Shared) (H : Hp) (args : Args) (us : List Value) (vs : List V) (Q : VK) (E : XK),
    Gu base A → Room k A → Env0 P w K mg base A out s H → BindsTo s fd args (ps.zip us) → Vals vs us → sp vs H Q E →
    codeAny (model P w) A (.call (.ref f) args) (CR CX out P w H s Q E) s
section
variable {P : Program} {w : World} {K : PySem.W.Frag} {mg : Str → Option Value} {base : Heap} {CX : CXT} {j k : Nat}
  {f : Addr} {fd : FuncData} {ps : List Str} {sp : Sp}
theorem FnG.of (F : FnOk P w K mg base CX k f fd ps sp) : FnG P w K mg base CX k f fd ps sp :=
  ⟨F.len, fun A out s H args us vs Q E _ => F.run A out s H args us vs Q E⟩
theorem FnG.mono (F : FnG P w K mg base CX j f fd ps sp) (h : j ≤ k) : FnG P w K mg base CX k f fd ps sp :=
  ⟨F.len, fun A out s H args us vs Q E g r => F.run A out s H args us vs Q E g (r.mono h)⟩
end
/-- one entry of a def: its body's reading at this very entry -/
theorem enter {CX : CXT} {P : Program} {w : World} {K : PySem.W.Frag} {mg : Str → Option Value} {base : Heap} {k : Nat} {f : Addr}
    {nm qual : Str} {params : Arguments} {body : List Stmt} {sc : Scope} {dV kV doc pm cdv ct oc : Value} {an od : Option Addr}
    {osl : Array (Option Value)} {N ps : List Str} {A : Around} {out : List Env} {s : Shared} {H : Hp} {args : Args} {us : List Value} {vs : List V} {Q : VK} {E : XK}
    (lk : K.lookup f = some ⟨oc, od, .func (PySem.W.fnOf nm qual params body sc dV kV doc pm an cdv ct), osl⟩) (hcd : PySem.W.codeIn K cdv qual = true) (S : FnScope N ps sc)
    (hl : vs.length = ps.length) (hr : Room (k + 1) A) (e0 : Env0 P w K mg base A out s H)
    (hb : BindsTo s (PySem.W.fnOf nm qual params body sc dV kV doc pm an cdv ct) args (ps.zip us)) (r : Vals vs us)
    (hq : ∃ t, PSs (cxOf CX P w K mg base N qual sc f cdv A out s H E) body t ∧ t { nx := fun _ H' => Q .non H', rt := Q } (start N vs) H) :
    codeAny (model P w) A (.call (.ref f) args) (CR CX out P w H s Q E) s := by
  obtain ⟨t, ht, hq⟩ := hq
  have old : ∀ b o, base.get? b = some o → s.heap.get? b = some o := fun b o z => (e0.bs b o z).1
  have KX : K.In s.heap := e0.mod.kin.keeps old
  have kinds : ∀ y ∈ ps.zip us, sc.names.lookup y.1 = some .local ∨
      (sc.names.lookup y.1 = some .cell ∧ ((cellsFrom (s.heap.objs.size + 1) sc.names []).lookup y.1).isSome = true) := by
    intro y hy
    obtain ⟨n, v⟩ := y
    rcases S.par n (List.of_mem_zip hy).1 with q | q
    · exact .inl q
    · exact .inr ⟨q, PySem.W.cellsFrom_some _ _ _ (.inl q)⟩
  refine codeAny_call_function hr.depth (KX _ _ lk) rfl S.co S.gen rfl (PySem.W.codeRec_of KX hcd) (hb _ _ _ _ ?_)
  refine wpAny_newFunctionEnv_cells S.kind kinds fun env he s1 x => ?_
  subst he
  refine ⟨(e0.mod.nolimit.keeps old).keeps x.toInCall.keep, codeAny_func ?_⟩
  have I := inv_start (CX := CX) (mg := mg) (E := E) (f := f) (cd := cdv) (qual := qual) S hr.hd e0 hl r x
  refine wpAny_mono (ht.run [] s1 _ H _ I hq) (fun fl s' hs => ?_) fun _ _ z => z
  cases fl with
  | ret u => obtain ⟨v, σ', H', J, rv, q⟩ := hs; exact ⟨v, H', J.os, J.bare, J.base, J.hok, rv, q⟩
  | next => obtain ⟨σ', H', J, q⟩ := hs; exact ⟨.non, H', J.os, J.bare, J.base, J.hok, rfl, q⟩
  | brk => obtain ⟨_, _, _, q⟩ := hs; exact q.elim
  | cont => obtain ⟨_, _, _, q⟩ := hs; exact q.elim
section
variable {P : Program} {w : World} {K : PySem.W.Frag} {mg : Str → Option Value} {base : Heap}
theorem okG {CX : CXT} {x qual : Str} {st : Stmt} {f : Addr} {fd : FuncData} {N ps : List Str} {k : Nat} {sp : Sp} (F : Fun K x qual st f fd) (S : FnScope N ps (defScope st))
    (len : ∀ vs H Q E, sp vs H Q E → vs.length = ps.length)
    (hbody : ∀ (cdv : Value) (A : Around) (out : List Env) (s : Shared) (H : Hp) (vs : List V) (Q : VK) (E : XK),
      Gu base (A.deeper (envOfC qual (defScope st) s.heap.objs.size f cdv)) → Room k (A.deeper (envOfC qual (defScope st) s.heap.objs.size f cdv)) → sp vs H Q E →
      ∃ t, PSs (cxOf CX P w K mg base N qual (defScope st) f cdv A out s H E).nox (defBody st) t ∧ t { nx := fun _ H' => Q .non H', rt := Q } (start N vs) H) :
    FnG P w K mg base CX (k + 1) f fd ps sp := by
  obtain ⟨oc, od, kV, doc, pm, an, cdv, ct, osl, rfl, lk, hcd⟩ := F.ex
  refine ⟨len, fun A out s H args us vs Q E g hr e0 hb r hsp => ?_⟩
  refine enter lk hcd S (len _ _ _ _ hsp) hr e0 hb r ?_
  obtain ⟨t, h, q⟩ := hbody cdv A out s H vs Q E g (hr.deeper _) hsp
  exact ⟨t, h.nox, q⟩
end

/-! ### calls: positional and by keywords, E may lean on the slots (a try around) -/
/-- no exception is let out -/
theorem passN {X : Cx} (σ : L2.St) : PassesAt (L2.CX X.prog X.w) X σ E0 := fun pins H s e s' I c => passL pins σ H s e s' I c
/-- what is wished of a call's arguments: gV puts them in the parameters' order -/
def tCK (sp : Sp) (gV : List V → List V → List V) (E : L2.St → XK) (t tk : TA) : TE := fun σ H Q => t σ H fun vs H1 => tk σ H1 fun zs H2 => sp (gV vs zs) H2 Q (E σ)
section
variable {X : Cx} {k : Nat} {f : Addr} {fd : FuncData} {ps ks : List Str} {sp : Sp} {E : L2.St → XK} {x : Str} {p pos : Pos}
  {e : Expr} {es : List Expr} {kws : List Keyword} {t tk : TA} {g : List Value → List Value → List Value} {gV : List V → List V → List V}
abbrev FG (P : Program) (w : World) (K : PySem.W.Frag) (mg : Str → Option Value) (base : Heap) := FnG P w K mg base (L2.CX P w)
theorem runG {pins : List (Addr × Obj)} {σ : L2.St} {H : Hp} {s : Shared} {Q : VK} {us ws : List Value} {vs zs : List V} (F : FG X.prog X.w X.K X.mg X.base k f fd ps sp) (gu : Gu X.base X.A) (hr : Room k X.A)
    (hb : KBinds X.K fd ps ks g gV) (hx : PassesAt (L2.CX X.prog X.w) X σ (E σ)) (I : Inv X pins σ H s) (r : Vals vs us) (rz : Vals zs ws) (h : sp (gV vs zs) H Q (E σ)) :
    wpAny (model X.prog X.w) X.A (call (.ref f) us (ks.zip ws)) (EP X pins σ Q) X.xe s := by
  have r2 := hb.rel r rz
  have hl : (g us ws).length = ps.length := r2.length ▸ F.len _ _ _ _ h
  refine wpAny_call (codeAny_mono (F.run X.A X.stack s H ⟨us, ks.zip ws⟩ _ _ Q (E σ) gu hr I.env0 (hb.to s us ws I.kIn hl) r2 h) fun r s' hq => ?_)
  cases r with
  | error e => exact hx pins H s e s' I hq
  | ok fl =>
    cases fl with
    | ret u => exact I.after hq
    | next => exact hq.elim
    | brk => exact hq.elim
    | cont => exact hq.elim
/-- positional arguments alone: gV is the first list -/
theorem kb_pos (hb : Binds X.K fd ps []) : KBinds X.K fd ps [] (fun us _ => us) (fun vs _ => vs) where
  to := fun s us ws hK hl => by
    have z := hb s us hK (by rw [List.append_nil]; exact hl)
    rw [List.append_nil] at z
    exact z
  rel := fun r _ => r
/-- f(e, ..) -/
theorem pe_f (F : FG X.prog X.w X.K X.mg X.base k f fd ps sp) (gu : Gu X.base X.A) (hr : Room k X.A) (hm : X.mg x = some (.ref f)) (hk : PySem.W.keepIn X.K (.ref f) = true)
    (hb : Binds X.K fd ps []) (hx : ∀ σ, PassesAt (L2.CX X.prog X.w) X σ (E σ)) (ha : PA X (e :: es) t) (hg : Gl X x := by rfl) (hdb : (x == ("__debug__" : Str)) = false := by decide)
    (he : starEach (e :: es) X.env = (false, eval e X.env) :: starEach es X.env := by rfl) (hpl : (backTo pos (starEach es X.env)).any (·.1) = false := by rfl) :
    PE X (.Call (.Name x p) (e :: es) [] pos) (tCallS sp E t) := by
  constructor
  intro pins s σ H Q I h
  refine wpAny_Call_Name_kw (ld_glob I hg hm (PySem.W.callWith_K (h₀ := X.base) I.ok.mod.kin hk (thn (ha.run pos pins s σ H _ I h) fun us s1 z => ?_) he hpl) hdb)
  obtain ⟨vs, H1, I1, r, q⟩ := z
  exact ⟨I1.kIn, runG (ks := []) (ws := []) (zs := []) F gu hr (kb_pos hb) (hx σ) I1 r .nil q⟩
/-- f() -/
theorem pe_f0 (F : FG X.prog X.w X.K X.mg X.base k f fd ps sp) (gu : Gu X.base X.A) (hr : Room k X.A) (hm : X.mg x = some (.ref f)) (hk : PySem.W.keepIn X.K (.ref f) = true)
    (hb : Binds X.K fd ps []) (hx : ∀ σ, PassesAt (L2.CX X.prog X.w) X σ (E σ)) (hg : Gl X x := by rfl) (hdb : (x == ("__debug__" : Str)) = false := by decide) :
    PE X (.Call (.Name x p) [] [] pos) (tCallS sp E tNil) := by
  constructor
  intro pins s σ H Q I h
  refine wpAny_Call_Name_kw (ld_glob I hg hm (PySem.W.callWith_K0 I.kIn hk ?_) hdb)
  exact runG (ks := []) (us := []) (ws := []) (zs := []) F gu hr (kb_pos hb) (hx σ) I .nil .nil h
/-- f(k = e, ..) -/
theorem pe_k0 (F : FG X.prog X.w X.K X.mg X.base k f fd ps sp) (gu : Gu X.base X.A) (hr : Room k X.A) (hm : X.mg x = some (.ref f)) (hk : PySem.W.keepIn X.K (.ref f) = true)
    (hb : KBinds X.K fd ps ks g gV) (hx : ∀ σ, PassesAt (L2.CX X.prog X.w) X σ (E σ)) (hkw : PK X kws tk) (hg : Gl X x := by rfl)
    (hall : (backToKw pos (keywordEach kws X.env)).all (·.1.isSome) = true := by rfl) (hks : (backToKw pos (keywordEach kws X.env)).filterMap (·.1) = ks := by rfl)
    (hdb : (x == ("__debug__" : Str)) = false := by decide)
    (hpl : ((backTo pos (starEach [] X.env)).any (·.1) || (backToKw pos (keywordEach kws X.env)).any (·.1.isNone)) = false := by rfl) :
    PE X (.Call (.Name x p) [] kws pos) (tCK sp gV E tNil tk) := by
  constructor
  intro pins s σ H Q I h
  refine wpAny_Call_Name_kw (ld_glob I hg hm (PySem.W.callWith_KW0 (h₀ := X.base) I.ok.mod.kin hk hall ?_ hpl) hdb)
  refine thn (hkw.run pos pins s σ H _ I h) fun ws s2 z => ?_
  obtain ⟨zs, H2, I2, rz, q⟩ := z
  rw [hks]
  exact ⟨I2.kIn, runG (us := []) F gu hr hb (hx σ) I2 .nil rz q⟩
/-- f(e, .., k = v, ..) -/
theorem pe_k (F : FG X.prog X.w X.K X.mg X.base k f fd ps sp) (gu : Gu X.base X.A) (hr : Room k X.A) (hm : X.mg x = some (.ref f)) (hk : PySem.W.keepIn X.K (.ref f) = true)
    (hb : KBinds X.K fd ps ks g gV) (hx : ∀ σ, PassesAt (L2.CX X.prog X.w) X σ (E σ)) (ha : PA X (e :: es) t) (hkw : PK X kws tk) (hg : Gl X x := by rfl)
    (hall : (backToKw pos (keywordEach kws X.env)).all (·.1.isSome) = true := by rfl) (hks : (backToKw pos (keywordEach kws X.env)).filterMap (·.1) = ks := by rfl)
    (hdb : (x == ("__debug__" : Str)) = false := by decide) (he : starEach (e :: es) X.env = (false, eval e X.env) :: starEach es X.env := by rfl)
    (hpl : ((backTo pos (starEach (e :: es) X.env)).any (·.1) || (backToKw pos (keywordEach kws X.env)).any (·.1.isNone)) = false := by rfl) :
    PE X (.Call (.Name x p) (e :: es) kws pos) (tCK sp gV E t tk) := by
  constructor
  intro pins s σ H Q I h
  refine wpAny_Call_Name_kw (ld_glob I hg hm ?_ hdb)
  refine PySem.W.callWith_KW (h₀ := X.base) I.ok.mod.kin hk hall (thn (ha.run pos pins s σ H _ I h) fun us s1 z1 => ?_) hpl he
  obtain ⟨vs, H1, I1, r, q1⟩ := z1
  refine thn (hkw.run pos pins s1 σ H1 _ I1 q1) fun ws s2 z => ?_
  obtain ⟨zs, H2, I2, rz, q⟩ := z
  rw [hks]
  exact ⟨I2.kIn, runG F gu hr hb (hx σ) I2 r rz q⟩
end
/-- a body's entry, exceptions allowed -/
theorem okX {P : Program} {w : World} {K : PySem.W.Frag} {mg : Str → Option Value} {base : Heap} {x qual : Str} {st : Stmt} {f : Addr} {fd : FuncData} {N ps : List Str} {k : Nat} {sp : Sp}
    (F : Fun K x qual st f fd) (S : FnScope N ps (defScope st)) (len : ∀ vs H Q E, sp vs H Q E → vs.length = ps.length)
    (hbody : ∀ (cdv : Value) (A : Around) (out : List Env) (s : Shared) (H : Hp) (vs : List V) (Q : VK) (E : XK),
      Gu base (A.deeper (envOfC qual (defScope st) s.heap.objs.size f cdv)) → Room k (A.deeper (envOfC qual (defScope st) s.heap.objs.size f cdv)) → sp vs H Q E →
      ∃ t, PSs (cxOf (L2.CX P w) P w K mg base N qual (defScope st) f cdv A out s H E) (defBody st) t ∧ t { nx := fun _ H' => Q .non H', rt := Q } (start N vs) H) :
    FG P w K mg base (k + 1) f fd ps sp := by
  obtain ⟨oc, od, kV, doc, pm, an, cdv, ct, osl, rfl, lk, hcd⟩ := F.ex
  refine ⟨len, fun A out s H args us vs Q E g hr e0 hb r hsp => ?_⟩
  exact enter lk hcd S (len _ _ _ _ hsp) hr e0 hb r (hbody cdv A out s H vs Q E g (hr.deeper _) hsp)
/-- X() of an own exception class without an __init__ of its own -/
theorem pmk_own0 {X : Cx} {C : Addr} {bmB : List Value} {B newId initId : String} {x : Str} {p pos : Pos} (F : ExcBaseFacts B newId initId bmB) (q : PySem.W.excIn X.K C bmB newId = true)
    (gC : X.mg x = some (.ref C)) (kC : PySem.W.keepIn X.K (.ref C) = true) (r : Raises X (.ref C)) (hg : Gl X x := by rfl) (hdb : (x == ("__debug__" : Str)) = false := by decide) :
    PMk X (.Call (.Name x p) [] [] pos) (fun _ H Q => Q (.ref C) none H) := by
  intro pins s σ H Q I h
  refine wpAny_Call_Name_kw (ld_glob I hg gC (PySem.W.callWith_K0 I.kIn kC ?_) hdb)
  show wpAny _ _ (call (.ref C) []) _ _ _
  obtain ⟨bm, N, nm, qn, bs, hdct, sn, sub, ab, col, dd, k0, k1, k2, k3, k5, mN, hC, hN, hni, T⟩ := exc_obj I.kIn q
  refine wpAny_call_exc_subT F T hC hN hni (fun h' e hm => ?_) (Nat.zero_le _)
  exact mk_of I hm r h (I.hok.gone hm.new)
/-! ### the law's own call -/
section
variable {P : Program} {w : World} {K : PySem.W.Frag} {mg mb : Str → Option Value} {k : Nat} {fa a : Addr} {fd : FuncData} {x : Str} {sp : Sp} {s1 : Shared} {vs : List Value} {ns : List Int}
theorem top_at {Hh : Hp} (KX : K.In s1.heap) (hns : s1.heap.Ns mainGlobals mg) (hb : s1.heap.Ns builtinsNs mb) (hbb : ∀ y : Str, y ≠ "__name__" → mb y = bootBuiltins y) (hlim : s1.heap.NoLimit) (hnd : s1.heap.NoDigits) (hg : s1.gens = #[])
    (ha : s1.heap.get? a = some { cls := .type "list", data := .seq vs.toArray }) (hr : Room k callerA)
    (F : ∀ base : Heap, K.In base → base.Ns mainGlobals mg → FG P w K mg base k fa fd [x] sp) (hbind : ∀ (s : Shared) (u : Value), BindsTo s fd ⟨[u], []⟩ [(x, u)])
    (hO : Only Hh) (hok : HOk P w Hh s1.heap) (own : ∀ b, Hh b ≠ none → b = a) (out : Hh a ≠ none → K.lookup a = none)
    (hsp : sp [.ref a] Hh (fun v _ => v = .bl true) fun _ _ _ => False) :
    codeAny (model P w) callerA (.call (.ref fa) ⟨[.ref a], []⟩) (fun r s' => r = .ok (.ret (.bool true)) ∧ OldK s1.heap s'.heap ∧ s'.os = s1.os ∧ AllBare s'.gens) s1 := by
  have noD : ∀ {b : Addr} {o : Obj} {es : Array DictEntry} {ep : Nat}, s1.heap.get? b = some o → o.data = .dict es ep → Hh b = none := by
    intro b o es ep e d
    refine Classical.byContradiction fun z => ?_
    have e' := own b z
    subst e'
    rw [ha] at e
    cases e
    exact nomatch (show Data.seq vs.toArray _ = Data.dict es ep from d)
  have hid : ∀ {b : Addr} {m : Str → Option Value}, s1.heap.Ns b m → (hidT s1.heap Hh).Ns b m := by
    intro b m z
    obtain ⟨o, es, ep, e, d, r⟩ := z
    exact ⟨o, es, ep, hidT_get e (noD e d), d, r⟩
  have KH : K.In (hidT s1.heap Hh) := by
    intro b o e
    refine hidT_get (KX b o e) (Classical.byContradiction fun z => ?_)
    have e' := own b z
    subst e'
    rw [out z] at e
    cases e
  obtain ⟨mc, l1, l2⟩ := hlim
  obtain ⟨md, l3, l4⟩ := hnd
  have hM : Mod K mg (hidT s1.heap Hh) := ⟨KH, hid hns, ⟨mb, hid hb, hbb⟩, ⟨mc, hid l1, l2⟩⟩
  have e0 : Env0 P w K mg (hidT s1.heap Hh) callerA [] s1 Hh :=
    ⟨rfl, hM, fun b o e => of_hidT e, Nat.le_of_eq (hidT_size _ _), trivial, (fun b z => absurd (show b ∈ ([] : List Addr) from z) List.not_mem_nil), hok, .of_eq hg⟩
  refine codeAny_mono ((F _ KH (hid hns)).run callerA [] s1 Hh ⟨[.ref a], []⟩ [.ref a] [.ref a] _ _ ⟨rfl, md, hid l3, l4⟩ hr e0 (hbind s1 (.ref a)) (.cons rfl .nil) hsp) fun r s' h => ?_
  cases r with
  | error e =>
    obtain ⟨_, _, _, _, _, _, _, _, _, _, _, _, z⟩ := h
    exact z.elim
  | ok fl =>
    cases fl with
    | next => exact h.elim
    | brk => exact h.elim
    | cont => exact h.elim
    | ret u =>
      obtain ⟨v, H', os, bare, un, hok', rv, q⟩ := h
      obtain rfl : v = .bl true := q
      obtain rfl : u = Value.bool true := rv
      refine ⟨rfl, OldK.of_keep fun b o e => ?_, os, bare⟩
      cases z : Hh b with
      | none => exact un.keep b o e z (fun y => absurd (show b ∈ ([] : List Addr) from y) List.not_mem_nil) List.not_mem_nil
      | some u =>
        rcases hO b with y | ⟨ob, xs, y⟩
        · rw [z] at y
          cases y
        · obtain ⟨e1, _⟩ := hok b _ y
          obtain ⟨e2, _⟩ := hok' b _ (un.frzs b ob _ y)
          rw [e] at e1
          cases e1
          exact e2
end
/-- the goal behind k_head -/
theorem walkG {l : PySem.W.OpenLaw} {n k : Nat} {q : Program} {loose : List Str} {XP : (Str → Option Value) → Heap → Prop} {YP : World → Heap → Prop} {d : DefRec} {K : Params → PySem.W.Frag} {sp : PySem.W.Frag → Sp} {x : Str}
    (hn : l.most = some n) (hn2 : n ≤ sizeLine) (hdf : d.params.defaults = []) (hr : Room k callerA)
    (hY : ∀ (w : World) (h : Heap), YP w h → (K w.params).In h)
    (F : ∀ (w : World) (mg : Str → Option Value) (fa : Addr) (h : Heap), (K w.params).In h → h.Ns mainGlobals mg → mg d.name = some (.ref fa) →
      ∃ fd : FuncData, (∀ (s : Shared) (u : Value), BindsTo s fd ⟨[u], []⟩ [(x, u)]) ∧
        ∀ base : Heap, (K w.params).In base → base.Ns mainGlobals mg → FG l.prog w (K w.params) mg base k fa fd [x] (sp (K w.params)))
    (hsp : ∀ (K : PySem.W.Frag) (H : Hp) (a : Addr) (ns : List Int), ns.length ≤ n → Only H → SqL K H a (ns.map V.int) → sp K [.ref a] H (fun v _ => v = .bl true) fun _ _ _ => False) :
    PySem.W.WalkO q loose XP YP l.row.toRowW d [] (fun f vs => PySem.call f vs) := by
  refine Att.attach_call hn hdf fun w s0 s1 mg mb fa o pm cd doc a vs ns G Y ho hd hcd hmg hobj hints hlen hg => ?_
  have KX := hY w _ Y
  obtain ⟨fd, hb, hF⟩ := F w mg fa _ KX G.T.g hmg
  have rv := vals_ints hints
  have lenV := hints.length
  have fits : ns.length ≤ sizeLine := Nat.le_trans hlen hn2
  cases hk : (K w.params).lookup a with
  | some ob =>
    have e := KX a ob hk
    rw [hobj] at e
    cases e
    refine top_at (Hh := fun _ => none) KX G.T.g G.T.b G.T.builtins G.T.nolimit (Top.nodigits G.T) hg hobj hr hF hb (fun _ => .inl rfl) (fun b u z => nomatch (show (none : Option HO) = some u from z)) (fun b z => absurd rfl z) (fun z => absurd rfl z) ?_
    exact hsp _ _ a ns hlen (fun _ => .inl rfl) (.inr ⟨_, vs.toArray, _, hk, rfl, rfl, rfl, by rw [List.size_toArray, lenV]; exact fits, by simpa using rv⟩)
  | none =>
    let Hh : Hp := fun b => if b = a then some (.frz { cls := .type "list", data := .seq vs.toArray } (.lst (ns.map V.int))) else none
    have at_a : Hh a = some (.frz { cls := .type "list", data := .seq vs.toArray } (.lst (ns.map V.int))) := if_pos rfl
    have off : ∀ b, b ≠ a → Hh b = none := fun b hb => if_neg hb
    have hO : Only Hh := fun b => by
      by_cases hb : b = a
      · exact .inr ⟨_, _, hb ▸ at_a⟩
      · exact .inl (off b hb)
    refine top_at (Hh := Hh) KX G.T.g G.T.b G.T.builtins G.T.nolimit (Top.nodigits G.T) hg hobj hr hF hb hO (fun b u z => ?_) (fun b z => Classical.byContradiction fun y => z (off b y)) (fun _ => hk) (hsp _ _ a ns hlen hO (.inl (.inr ⟨_, at_a⟩)))
    by_cases hb : b = a
    · subst hb
      rw [at_a] at z
      cases z
      exact ⟨hobj, by rw [List.length_map]; exact fits, vs, _, rv, hobj⟩
    · rw [off b hb] at z
      cases z
end VB

/-! VA1: repr of data with great integers (to 2^12900) -/
namespace VB
open PySem PySem.Spec PyProof.Rows L2
theorem lim_of {a : Int} (h : a.natAbs.log2 < 12900) : a.natAbs < 10 ^ 4300 := Nat.lt_of_lt_of_le (PyProof.Rows.lt_of_log2 h) pow_lo
section
variable {prog : Program} {w : World}
theorem irB {A : Around} {E : Value → Shared → Prop} {s : Shared} {a : Int} {t : Tok} {Q : Value → Shared → Prop} (nd : s.heap.NoDigits) (lt : a.natAbs.log2 < 12900)
    (q : Q (.str (toString a) s.toks) { s with toks := s.toks + 1 }) : wpAny (model prog w) A (call (.builtin "int.__repr__") [.int a t]) Q E s := by
  refine wpAny_call_entry F.slot_int_repr (typeIs_int s a t)
    F.entry_int_repr ?_ (F.args_int_repr_1 _)
  unfold Builtin.«int.__repr__»
  show wpAny _ _
    (do let r ← Builtin.overDigitLimit? a; _) _ _ s
  exact wpAny_bind (overDigitLimit_any nd (fun _ =>
    wpAny_bind (wpAny_mkStr (wpAny_pure ⟨_, rfl, q⟩) (int_text_fits10 (lim_of lt)))) (fun ge => absurd (lim_of lt) (Nat.not_lt.mpr ge)))
theorem proB {A : Around} {E : Value → Shared → Prop} {s : Shared} {a : Int} {t : Tok} {Q : Value → Shared → Prop} (nd : s.heap.NoDigits) (lt : a.natAbs.log2 < 12900)
    (q : Q (.str (toString a) s.toks) { s with toks := s.toks + 1 }) : wpAny (model prog w) A (pyReprObj (.int a t)) Q E s := by
  have nh : [Value.int a t].any Value.onHeap = false := rfl
  unfold pyReprObj
  simp only [cRoomFor, nh, Bool.false_eq_true,
    if_false, pure_bind]
  have ty := typeIs_int s a t
  refine wpAny_bind (wpAny_specialOf (name := Str.ofString "__repr__") ty
    F.slot_int_repr.lookup ?_)
  refine wpAny_bind (m := callSpecialIfBound? (.int a t) (Str.ofString "__repr__"))
    (wpAny_callSpecialIfBound?_slot (name := Str.ofString "__repr__") ty F.slot_int_repr (irB nd lt ?_))
  exact wpAny_bind (wpAny_isInstance (T := "str") (b := true) rfl
    isSubtype_str_str (wpAny_pure q))
theorem reprB {A : Around} {E : Value → Shared → Prop} {s : Shared} {a : Int} {t : Tok} {Q : Value → Shared → Prop} (nd : s.heap.NoDigits) (lt : a.natAbs.log2 < 12900)
    (q : Q (.str (toString a) s.toks) { s with toks := s.toks + 1 }) : wpAny (model prog w) A (call (.builtin "repr") [.int a t]) Q E s := by
  have nh : [Value.int a t].any Value.onHeap = false := rfl
  refine Calls.call_function_entry F.kind_repr
    F.plain_repr F.entry_repr (F.args_repr1 _) ?_
  unfold Builtin.«repr»
  refine wpAny_bind (m := oneArg "repr" _)
    (wpAny_pure ?_)
  simp only [cRoomFor, nh, Bool.false_eq_true,
    if_false, pure_bind]
  have ty := typeIs_int s a t
  refine wpAny_bind (wpAny_specialOf (name := Str.ofString "__repr__") ty
    F.slot_int_repr.lookup ?_)
  refine wpAny_bind (m := callSpecialIfBound? (.int a t) (Str.ofString "__repr__"))
    (wpAny_callSpecialIfBound?_slot (name := Str.ofString "__repr__") ty F.slot_int_repr (irB nd lt ?_))
  refine wpAny_bind (wpAny_isInstance (T := "str") (b := true) rfl
    isSubtype_str_str ?_)
  exact wpAny_pure ⟨_, rfl, q⟩
theorem rkB {h₀ : Heap} {a : Int} (t : Tok) (nd : h₀.NoDigits) (lt : a.natAbs.log2 < 12900) (as : List Addr) (d : Nat) : ReprK prog w as h₀ d (.int a t) (toString a) := by
  intro n hn A g E s Q _ _ _ hk hq
  have hn' : n ≤ sizeLine := by omega
  rw [pyReprUnder_leaf (v := Value.int a t) hn' (fun _ e => nomatch e)]
  unfold pyRepr
  exact wpAny_bind (proB (nd.keeps hk) lt
    (wpAny_pure (hq s.heap _ fun _ _ e => e)))
end
mutual
/-- repr can write it: no dicts, integers below 2^12900 -/
def showB : PyData → Bool
  | .none => true
  | .bool _ => true
  | .str _ => true
  | .int i => decide (i.natAbs.log2 < 12900)
  | .list xs => showBA xs
  | .tuple xs => showBA xs
  | .dict kvs => PyData.showable (.dict kvs)
def showBA : List PyData → Bool
  | [] => true
  | x :: xs => showB x && showBA xs
end
mutual
theorem showB_of : ∀ {d : PyData}, d.showable = true → showB d = true
  | .none, _ => by simp only [showB]
  | .bool _, _ => by simp only [showB]
  | .str _, _ => by simp only [showB]
  | .int i, h => by
    simp only [showB, decide_eq_true_eq]
    simp only [PyData.showable, decide_eq_true_eq] at h
    omega
  | .list xs, h => by
    simp only [showB]
    exact showBA_of (by simpa [PyData.showable] using h)
  | .tuple xs, h => by
    simp only [showB]
    exact showBA_of (by simpa [PyData.showable] using h)
  | .dict _, h => by
    simp only [showB]
    exact h
theorem showBA_of : ∀ {ds : List PyData}, PyData.showableAll ds = true → showBA ds = true
  | [], _ => by simp only [showBA]
  | x :: xs, h => by
    have h' : x.showable = true ∧ PyData.showableAll xs = true := by simpa [PyData.showableAll] using h
    simp only [showBA, showB_of h'.1, showBA_of h'.2, Bool.and_self]
end
mutual
/-- the dicts in it are empty -/
def smD : PyData → Bool
  | .list xs => smDA xs
  | .tuple xs => smDA xs
  | .dict kvs => kvs.isEmpty
  | _ => true
def smDA : List PyData → Bool
  | [] => true
  | x :: xs => smD x && smDA xs
end
end VB

/-! VB2: repr of data -/
namespace VB
open PySem PySem.Spec PyProof.Rows L2
mutual
/-- data on the heap, empty dicts among it -/
inductive Dx (K : PySem.W.Frag) (H : Hp) : V → PyData → Prop
  | non : Dx K H .non .none
  | bl (b : Bool) : Dx K H (.bl b) (.bool b)
  | int (i : Int) : Dx K H (.int i) (.int i)
  | str (x : Str) : Dx K H (.str x) (.str x)
  | lst {a : Addr} {xs : List V} {ds : List PyData} (hs : SqL K H a xs) (ha : DxAll K H xs ds) : Dx K H (.ref a) (.list ds)
  | tup {a : Addr} {xs : List V} {ds : List PyData} (hs : SqT K H a xs) (ha : DxAll K H xs ds) : Dx K H (.ref a) (.tuple ds)
  | emp {a : Addr} (e : H a = some (.dK [])) : Dx K H (.ref a) (.dict [])
inductive DxAll (K : PySem.W.Frag) (H : Hp) : List V → List PyData → Prop
  | nil : DxAll K H [] []
  | cons {v : V} {vs : List V} {d : PyData} {ds : List PyData} (h : Dx K H v d) (t : DxAll K H vs ds) : DxAll K H (v :: vs) (d :: ds)
end
mutual
theorem dx_of {K : PySem.W.Frag} {H : Hp} : ∀ (d : PyData) (v : V), Dp K H v d → Dx K H v d
  | .none, _, h => by cases h; exact .non
  | .bool _, _, h => by cases h; exact .bl _
  | .int _, _, h => by cases h; exact .int _
  | .str _, _, h => by cases h; exact .str _
  | .list ds, _, h => by
    cases h with
    | lst hs ha => exact .lst hs (dxa_of ds _ ha)
  | .tuple ds, _, h => by
    cases h with
    | tup hs ha => exact .tup hs (dxa_of ds _ ha)
  | .dict _, _, h => by cases h
theorem dxa_of {K : PySem.W.Frag} {H : Hp} : ∀ (ds : List PyData) (vs : List V), DpAll K H vs ds → DxAll K H vs ds
  | [], _, h => by cases h; exact .nil
  | d :: ds, _, h => by
    cases h with
    | cons h1 h2 => exact .cons (dx_of d _ h1) (dxa_of ds _ h2)
end
mutual
theorem dx_sm {K : PySem.W.Frag} {H : Hp} : ∀ (d : PyData) (v : V), Dx K H v d → smD d = true
  | .none, _, _ => by simp only [smD]
  | .bool _, _, _ => by simp only [smD]
  | .int _, _, _ => by simp only [smD]
  | .str _, _, _ => by simp only [smD]
  | .list ds, _, h => by
    cases h with
    | lst _ ha => simp only [smD]; exact dxa_sm ds _ ha
  | .tuple ds, _, h => by
    cases h with
    | tup _ ha => simp only [smD]; exact dxa_sm ds _ ha
  | .dict _, _, h => by cases h; simp [smD]
theorem dxa_sm {K : PySem.W.Frag} {H : Hp} : ∀ (ds : List PyData) (vs : List V), DxAll K H vs ds → smDA ds = true
  | [], _, _ => by simp only [smDA]
  | d :: ds, _, h => by
    cases h with
    | cons h1 h2 => simp only [smDA, dx_sm d _ h1, dxa_sm ds _ h2, Bool.and_self]
end
section
variable {X : Cx} {pins : List (Addr × Obj)} {σ : L2.St} {H : Hp} {s : Shared}
/-- an empty dict as it stands -/
theorem emp_at {a : Addr} (I : Inv X pins σ H s) (e : H a = some (.dK [])) : ∃ o ep, s.heap.get? a = some o ∧ o.cls = .type "dict" ∧ o.data = .dict #[] ep ∧ (a == sysModules) = false := by
  obtain ⟨_, hs, vs, kv, o, es, ep, h1, h2, h3, _, h4, _⟩ := (show ObjOk X.prog X.w H s.heap a (.dK []) from I.hok a _ e)
  have : vs = [] := by cases kv; rfl
  subst this
  have es0 : es = #[] := by
    have : es.toList = [] := by generalize es.toList = l at h4 ⊢; cases h4; rfl
    exact Array.toList_inj.mp this
  subst es0
  exact ⟨o, ep, h1, h2.1, h3, hs⟩
mutual
theorem rdX (nd : s.heap.NoDigits) (I : Inv X pins σ H s) : ∀ (d : PyData) (v : V) (u : Value), Dx X.K H v d → RelV v u → showB d = true → d.shown.length ≤ sizeLine →
    ∃ as bs, Reads s.heap u d as ∧ ReadAtMost s.heap d.depth bs ∧ ReprK X.prog X.w bs s.heap d.depth u d.shown
  | .none, _, _, h, r, _, _ => by
    cases h
    cases r
    exact ⟨[], [], .none, (fun _ h => nomatch h), by simp only [PyData.shown]; exact .of_is ReprIs.none _ _ _⟩
  | .bool b, _, _, h, r, _, _ => by
    cases h
    cases r
    exact ⟨[], [], .bool b, (fun _ h => nomatch h), by simp only [PyData.shown]; exact .of_is (ReprIs.bool b) _ _ _⟩
  | .int i, _, _, h, r, hs, _ => by
    cases h
    obtain ⟨t, rfl⟩ := r
    exact ⟨[], [], .int i t, (fun _ h => nomatch h), by
      simp only [PyData.shown]
      exact rkB t nd (by simpa [showB] using hs) _ _⟩
  | .str x, _, _, h, r, _, hz => by
    cases h
    obtain ⟨t, rfl⟩ := r
    exact ⟨[], [], .str x t, (fun _ h => nomatch h), by
      simp only [PyData.shown]
      exact .of_is (ReprIs.str x t (by simpa only [PyData.shown] using hz)) _ _ _⟩
  | .list ds, _, _, h, r, hs, hz => by
    cases h with
    | lst hq ha =>
      cases r
      obtain ⟨its, rv, ⟨o, n, h1, h2, _, h3⟩, _⟩ := I.list hq
      have z : (listText (PyData.shownAll ds)).length ≤ sizeLine := by simpa only [PyData.shown] using hz
      obtain ⟨as, bs, h4, hb, hk⟩ := rdXA nd I ds _ its ha rv (by simpa [showB] using hs) (fun t ht => Nat.le_trans (listText_mem_le ht) z)
      have rr : Reads s.heap (.ref _) (.list ds) _ := .list h1 h2 h3 h4
      have na := not_mem_of_deeper rr (by simp only [PyData.depth]; omega) hb
      refine ⟨_, _ :: bs, rr, ReadAtMost.cons rr (by simp only [PyData.depth]; omega) hb, ?_⟩
      simp only [PyData.depth, PyData.shown]
      cases its with
      | cons x l => exact ReprK.list h1 h2 h3 na (by simpa using hk.length_eq) (fun i y e => hk.item i y (by simpa using e))
      | nil =>
        cases h4
        simp only [PyData.shownAll, listText_nil]
        exact ReprK.listEmpty h1 h2 h3
  | .tuple ds, _, _, h, r, hs, hz => by
    cases h with
    | tup hq ha =>
      cases r
      obtain ⟨its, rv, ⟨o, h1, h2, n, h3⟩, _⟩ := I.tuple hq
      have z : (tupleText (PyData.shownAll ds)).length ≤ sizeLine := by simpa only [PyData.shown] using hz
      obtain ⟨as, bs, h4, hb, hk⟩ := rdXA nd I ds _ its ha rv (by simpa [showB] using hs) (fun t ht => Nat.le_trans (tupleText_mem_le ht) z)
      have rr : Reads s.heap (.ref _) (.tuple ds) _ := .tuple h1 h2 h3 h4
      have na := not_mem_of_deeper rr (by simp only [PyData.depth]; omega) hb
      refine ⟨_, _ :: bs, rr, ReadAtMost.cons rr (by simp only [PyData.depth]; omega) hb, ?_⟩
      simp only [PyData.depth, PyData.shown]
      exact ReprK.tuple h1 h2 h3 na hk
  | .dict kvs, _, _, h, r, _, _ => by
    cases h with
    | emp e =>
      cases r
      obtain ⟨o, ep, h1, h2, h3, h4⟩ := emp_at I e
      have rr : Reads s.heap (.ref _) (.dict []) _ := .dict h1 h2 h3 .nil .nil
      refine ⟨_, [_], rr, ReadAtMost.cons rr (Nat.le_refl _) (fun _ h => nomatch h), ?_⟩
      exact ReprK.dict h1 h2 h3 h4 (fun h => nomatch h) (ReprEntriesK.of_two [] [] [] .nil .nil)
theorem rdXA (nd : s.heap.NoDigits) (I : Inv X pins σ H s) : ∀ (ds : List PyData) (vs : List V) (us : List Value), DxAll X.K H vs ds → Vals vs us → showBA ds = true → (∀ t ∈ PyData.shownAll ds, t.length ≤ sizeLine) →
    ∃ as bs, ReadsAll s.heap us ds as ∧ ReadAtMost s.heap (PyData.depthAll ds) bs ∧ ReprAllK X.prog X.w bs s.heap (PyData.depthAll ds) us (PyData.shownAll ds)
  | [], _, _, h, r, _, _ => by
    cases h
    cases r
    exact ⟨[], [], .nil, (fun _ h => nomatch h), by simp only [PyData.shownAll]; exact .nil⟩
  | d :: ds, _, _, h, r, hs, hz => by
    cases h with
    | cons g1 g2 =>
      cases r with
      | cons r1 r2 =>
        have s' : showB d = true ∧ showBA ds = true := by simpa [showBA] using hs
        obtain ⟨a1, b1, q1, p1, k1⟩ := rdX nd I d _ _ g1 r1 s'.1 (hz _ (by simp only [PyData.shownAll]; exact List.mem_cons_self ..))
        obtain ⟨a2, b2, q2, p2, k2⟩ := rdXA nd I ds _ _ g2 r2 s'.2 (fun t ht => hz t (by simp only [PyData.shownAll]; exact List.mem_cons_of_mem _ ht))
        simp only [PyData.depthAll, PyData.shownAll]
        exact ⟨_, b1 ++ b2, .cons q1 q2, (p1.mono (Nat.le_max_left _ _)).append (p2.mono (Nat.le_max_right _ _)),
          .cons ((k1.more fun b hb => List.mem_append_left _ hb).level_le (Nat.le_max_left _ _))
            (k2.more_le (fun b hb => List.mem_append_right _ hb) (Nat.le_max_right _ _))⟩
end
end
/-- repr(v), v data, its dicts empty -/
def rRepr (K : PySem.W.Frag) : List V → Hp → VK → Prop := fun xs H Q => ∃ v d, xs = [v] ∧ Dx K H v d ∧ showB d = true ∧ d.shown.length ≤ sizeLine ∧ d.depth < 60 ∧ Q (.str d.shown) H
theorem call_repr {X : Cx} (gu : Gu X.base X.A) (hu : X.A.units + 64 < cLine) : CallR X (.builtin "repr") (rRepr X.K) := by
  intro pins s σ H xs us Q I r h
  obtain ⟨v, d, rfl, hd, hs, hz, hdep, q⟩ := h
  have nd := gu.2.keeps I.bk
  cases r with
  | cons rv rn =>
    cases rn
    rename_i u
    cases hd with
    | non =>
      cases rv
      refine PySem.P.repr_of_none ⟨.str _, H, I.tok _, ⟨_, rfl⟩, ?_⟩
      simpa only [PyData.shown] using q
    | bl b =>
      cases rv
      refine PySem.P.repr_of_bool ⟨.str _, H, I.tok _, ⟨_, rfl⟩, ?_⟩
      simpa only [PyData.shown] using q
    | int i =>
      obtain ⟨t, rfl⟩ := rv
      refine reprB nd (by simpa [showB] using hs) ⟨.str _, H, I.tok _, ⟨_, rfl⟩, ?_⟩
      simpa only [PyData.shown] using q
    | str x =>
      obtain ⟨t, rfl⟩ := rv
      refine PySem.P.repr_of_str ⟨.str _, H, I.tok _, ⟨_, rfl⟩, ?_⟩ (by simpa only [PyData.shown] using hz)
      simpa only [PyData.shown] using q
    | @lst a xs ds hq ha =>
      cases rv
      obtain ⟨its, rv, ⟨o, n, h1, h2, _, h3⟩, _⟩ := I.list hq
      have z : (listText (PyData.shownAll ds)).length ≤ sizeLine := by simpa only [PyData.shown] using hz
      obtain ⟨as, bs, h4, hb, hk⟩ := rdXA nd I ds _ its ha rv (by simpa [showB] using hs) (fun t ht => Nat.le_trans (listText_mem_le ht) z)
      have na : a ∉ bs := not_mem_of_deeper (.list h1 h2 h3 h4) (by simp only [PyData.depth]; omega) hb
      simp only [PyData.depth] at hdep
      simp only [PyData.shown] at q
      refine call_repr_slot (by omega) ⟨o, h1, h2⟩ F.slot_list_repr.toG ?_
      cases its with
      | cons x l =>
        exact call_list_reprK h1 h2 h3 na (by simpa using hk.length_eq) (fun i y e => hk.item i y (by simpa using e)) gu.1
          (fun b _ => Clear.nil b) (by show X.A.units + 1 + _ < cLine; omega) (fun _ _ e => e) (fun h' u tk k => ⟨_, _, rfl, ⟨.str _, H, I.kept k, ⟨_, rfl⟩, q⟩⟩) z
      | nil =>
        cases h4
        simp only [PyData.shownAll, listText_nil] at q
        exact call_list_repr_empty ⟨o, h1, h2⟩ h1 h3 ⟨_, _, rfl, ⟨.str _, H, I.kept fun _ _ e => e, ⟨_, rfl⟩, q⟩⟩
    | @tup a xs ds hq ha =>
      cases rv
      obtain ⟨its, rv, ⟨o, h1, h2, n, h3⟩, _⟩ := I.tuple hq
      have z : (tupleText (PyData.shownAll ds)).length ≤ sizeLine := by simpa only [PyData.shown] using hz
      obtain ⟨as, bs, h4, hb, hk⟩ := rdXA nd I ds _ its ha rv (by simpa [showB] using hs) (fun t ht => Nat.le_trans (tupleText_mem_le ht) z)
      have na : a ∉ bs := not_mem_of_deeper (.tuple h1 h2 h3 h4) (by simp only [PyData.depth]; omega) hb
      simp only [PyData.depth] at hdep
      simp only [PyData.shown] at q
      refine call_repr_slot (by omega) ⟨o, h1, h2⟩ F.slot_tuple_repr ?_
      exact call_tuple_reprK h1 h2 h3 na hk gu.1 (fun b _ => Clear.nil b)
        (by show X.A.units + 1 + _ < cLine; omega) (fun _ _ e => e) (fun h' u tk k => ⟨_, _, rfl, ⟨.str _, H, I.kept k, ⟨_, rfl⟩, q⟩⟩) z
    | @emp a e =>
      cases rv
      obtain ⟨o, ep, h1, h2, h3, h4⟩ := emp_at I e
      refine call_repr_slot (by omega) ⟨o, h1, h2⟩ F.slot_dict_repr ?_
      exact call_dict_reprK h1 h2 h3 h4 (fun h => nomatch h) (d := 0) (as := []) (ReprEntriesK.of_two [] [] [] .nil .nil) gu.1 (fun b _ => Clear.nil b)
        (by show X.A.units + 1 + _ < cLine; omega) (fun _ _ e => e) (fun h' u tk k => ⟨_, _, rfl, ⟨.str _, H, I.kept k, ⟨_, rfl⟩, q⟩⟩) (by decide)
end VB

/-! VB3: defs by their names; readings, one construct after another -/
namespace VB
open PySem PySem.Spec PyProof.Rows L2
/-! ### a def of the top, as it stands -/
structure FnAt (P : Program) (w : World) (K : PySem.W.Frag) (mg : Str → Option Value) (base : Heap) (st : Stmt) (k : Nat) (x : Str) (ps : List Str) (sp : Sp) : Prop where
  ex : ∃ (f : Addr) (fd : FuncData), Fun K x x st f fd ∧ FG P w K mg base k f fd ps sp ∧ mg x = some (.ref f) ∧ Binds K fd ps []
theorem FnAt.mk' {P : Program} {w : World} {K : PySem.W.Frag} {mg : Str → Option Value} {base : Heap} {st : Stmt} {k : Nat} {x : Str} {ps : List Str} {sp : Sp} {f : Addr} {fd : FuncData}
    (F : Fun K x x st f fd) (G : FG P w K mg base k f fd ps sp) (m : mg x = some (.ref f)) (b : Binds K fd ps []) : FnAt P w K mg base st k x ps sp := ⟨⟨f, fd, F, G, m, b⟩⟩
/-- how keywords are put in order, for one def of the text -/
structure KwIs (st : Stmt) (x : Str) (ps ks : List Str) (g : List Value → List Value → List Value) (gV : List V → List V → List V) : Prop where
  to : ∀ (kV doc pm : Value) (an : Option Addr) (cdv ct : Value) (us ws : List Value), (g us ws).length = ps.length →
    bindArgs (PySem.W.fnOf x x (defArgs st) (defBody st) (defScope st) .none kV doc pm an cdv ct) ⟨us, ks.zip ws⟩ = pure (ps.zip (g us ws))
  rel : ∀ {vs : List V} {us : List Value} {zs : List V} {ws : List Value}, Vals vs us → Vals zs ws → Vals (gV vs zs) (g us ws)
section
variable {X : Cx} {k : Nat} {st : Stmt} {ps ks : List Str} {sp : Sp} {E : L2.St → XK} {x : Str} {p pos : Pos}
  {e : Expr} {es : List Expr} {kws : List Keyword} {t tk : TA} {g : List Value → List Value → List Value} {gV : List V → List V → List V}
theorem pe_c (c : FnAt X.prog X.w X.K X.mg X.base st k x ps sp) (gu : Gu X.base X.A) (hr : Room k X.A) (hx : ∀ σ, PassesAt (L2.CX X.prog X.w) X σ (E σ)) (ha : PA X (e :: es) t)
    (hg : Gl X x := by rfl) (hdb : (x == ("__debug__" : Str)) = false := by decide) (he : starEach (e :: es) X.env = (false, eval e X.env) :: starEach es X.env := by rfl)
    (hpl : (backTo pos (starEach es X.env)).any (·.1) = false := by rfl) : PE X (.Call (.Name x p) (e :: es) [] pos) (tCallS sp E t) := by
  obtain ⟨f, fd, F, G, m, b⟩ := c.ex
  exact pe_f G gu hr m F.kp b hx ha hg hdb he hpl
theorem pe_c0 (c : FnAt X.prog X.w X.K X.mg X.base st k x ps sp) (gu : Gu X.base X.A) (hr : Room k X.A) (hx : ∀ σ, PassesAt (L2.CX X.prog X.w) X σ (E σ))
    (hg : Gl X x := by rfl) (hdb : (x == ("__debug__" : Str)) = false := by decide) : PE X (.Call (.Name x p) [] [] pos) (tCallS sp E tNil) := by
  obtain ⟨f, fd, F, G, m, b⟩ := c.ex
  exact pe_f0 G gu hr m F.kp b hx hg hdb
theorem kbinds {K : PySem.W.Frag} {f : Addr} {fd : FuncData} (F : Fun K x x st f fd) (kw : KwIs st x ps ks g gV) : KBinds K fd ps ks g gV := by
  obtain ⟨oc, od, kV, doc, pm, an, cdv, ct, osl, rfl, lk, hcd⟩ := F.ex
  exact ⟨fun s us ws _ hl => .of_eq (kw.to kV doc pm an cdv ct us ws hl), fun r q => kw.rel r q⟩
theorem pe_ck0 (c : FnAt X.prog X.w X.K X.mg X.base st k x ps sp) (kw : KwIs st x ps ks g gV) (gu : Gu X.base X.A) (hr : Room k X.A) (hx : ∀ σ, PassesAt (L2.CX X.prog X.w) X σ (E σ)) (hkw : PK X kws tk)
    (hg : Gl X x := by rfl) (hall : (backToKw pos (keywordEach kws X.env)).all (·.1.isSome) = true := by rfl) (hks : (backToKw pos (keywordEach kws X.env)).filterMap (·.1) = ks := by rfl)
    (hdb : (x == ("__debug__" : Str)) = false := by decide)
    (hpl : ((backTo pos (starEach [] X.env)).any (·.1) || (backToKw pos (keywordEach kws X.env)).any (·.1.isNone)) = false := by rfl) : PE X (.Call (.Name x p) [] kws pos) (tCK sp gV E tNil tk) := by
  obtain ⟨f, fd, F, G, m, b⟩ := c.ex
  exact pe_k0 G gu hr m F.kp (kbinds F kw) hx hkw hg hall hks hdb hpl
theorem pe_ck (c : FnAt X.prog X.w X.K X.mg X.base st k x ps sp) (kw : KwIs st x ps ks g gV) (gu : Gu X.base X.A) (hr : Room k X.A) (hx : ∀ σ, PassesAt (L2.CX X.prog X.w) X σ (E σ)) (ha : PA X (e :: es) t) (hkw : PK X kws tk)
    (hg : Gl X x := by rfl) (hall : (backToKw pos (keywordEach kws X.env)).all (·.1.isSome) = true := by rfl) (hks : (backToKw pos (keywordEach kws X.env)).filterMap (·.1) = ks := by rfl)
    (hdb : (x == ("__debug__" : Str)) = false := by decide) (he : starEach (e :: es) X.env = (false, eval e X.env) :: starEach es X.env := by rfl)
    (hpl : ((backTo pos (starEach (e :: es) X.env)).any (·.1) || (backToKw pos (keywordEach kws X.env)).any (·.1.isNone)) = false := by rfl) : PE X (.Call (.Name x p) (e :: es) kws pos) (tCK sp gV E t tk) := by
  obtain ⟨f, fd, F, G, m, b⟩ := c.ex
  exact pe_k G gu hr m F.kp (kbinds F kw) hx ha hkw hg hall hks hdb he hpl
end
/-! ### // and % of any size, * of any size -/
/-- // by a divisor below 2 ^ 9000, not 0 -/
def CDv (_ j : Int) : Prop := j ≠ 0 ∧ j.natAbs.log2 < 9000
theorem op_dv {X : Cx} : OpR X (binaryOp .FloorDiv) (rI CDv fun i j => .int (i.fdiv j)) := opI fun _ _ _ _ _ _ _ hc q => floordiv_int hc.1 q (.inl (PyProof.noPylong_of_log2 hc.2))
theorem op_ml {X : Cx} : OpR X (binaryOp .Mult) (rI IntMulOk fun i j => .int (i * j)) := opI fun _ _ _ _ _ _ _ hc q => mul_int q hc

/-! ### named rules of calls -/
def rLen (K : PySem.W.Frag) : List V → Hp → VK → Prop := fun xs H Q => ∃ p ys, xs = [.ref p] ∧ (SqL K H p ys ∨ SqT K H p ys) ∧ Q (.int ys.length) H
def rAbs : List V → Hp → VK → Prop := fun xs H Q => ∃ i, xs = [.int i] ∧ Q (.int (if i < 0 then -i else i)) H
def rInt : List V → Hp → VK → Prop := fun xs H Q => (∃ i, xs = [.int i] ∧ Q (.int i) H) ∨ ∃ k, xs = [.bl k] ∧ Q (.int (if k then 1 else 0)) H
def rLenS : List V → Hp → VK → Prop := fun xs H Q => ∃ z : Str, xs = [.str z] ∧ z.length ≤ sizeLine ∧ Q (.int z.length) H
theorem cl_len {X : Cx} : CallR X (.builtin "len") (rLen X.K) := call_len_seq
theorem cl_abs {X : Cx} : CallR X (.builtin "abs") rAbs := call_abs
theorem cl_int {X : Cx} : CallR X (.type "int") rInt := call_int1
/-! ### what a construct wants, by name -/
def bK (R : Bool → Hp → Prop) : VK := fun x H => ∃ k, x = .bl k ∧ R k H
def gK (Q : VK) : V → V → Hp → Prop := fun x y H => ∃ a v, x = .ref a ∧ DGet H a y (some v) ∧ Q v H
def pK (v : V) (S : Hp → Prop) : V → V → Hp → Prop := fun x y H => ∃ a H4, x = .ref a ∧ DPut H a y v H4 ∧ S H4
def twoK (f : V → V → Hp → Prop) : List V → Hp → Prop := fun vs H => ∃ v w, vs = [v, w] ∧ f v w H
def iK (RO : Option Int → Hp → Prop) : VK := fun x H => ∃ i, x = .int i ∧ RO (some i) H
def newT (Q : VK) : List V → Hp → Prop := fun xs H => xs.length ≤ sizeLine ∧ ∀ p, H p = none → Q (.ref p) (upd H p (.tup xs))
def newL (Q : VK) : List V → Hp → Prop := fun xs H => xs.length ≤ sizeLine ∧ ∀ p, H p = none → Q (.ref p) (upd H p (.lst xs))
def ifS (t u : TS) (D : Ends) (σ : L2.St) : Bool → Hp → Prop := fun b H => if b = true then t D σ H else u D σ H
def ifE (ta tb : TE) (σ : L2.St) (Q : VK) : Bool → Hp → Prop := fun b H => if b = true then ta σ H Q else tb σ H Q
def andK (d : TT) (σ : L2.St) (R : Bool → Hp → Prop) : Bool → Hp → Prop := fun b H => if b = true then d σ H R else R false H
def orK (d : TT) (σ : L2.St) (R : Bool → Hp → Prop) : Bool → Hp → Prop := fun b H => if b = true then R true H else d σ H R
def andV (tb : TE) (σ : L2.St) (Q : VK) : VK := fun x H => ∃ c, x = .bl c ∧ if c = true then tb σ H Q else Q (.bl false) H
def orV (tb : TE) (σ : L2.St) (Q : VK) : VK := fun x H => ∃ c, x = .bl c ∧ if c = true then Q (.bl true) H else tb σ H Q
def notV (Q : VK) : VK := fun x H => ∃ c, x = .bl c ∧ Q (.bl (!c)) H
def bmK (K : PySem.W.Frag) (T : String) (f : V → List V → Hp → VK → Prop) (σ : L2.St) (ts : TA) (Q : VK) : VK := fun x H => tyV K T x H ∧ ts σ H fun xs H2 => f x xs H2 Q
/-! ### readings -/
section
variable {σ : L2.St} {H : Hp} {D : Ends} {i j : Nat} {v x y : V} {ta tb te : TE} {t u : TS} {c d : TT} {ts : TA} {Q : VK} {R : Bool → Hp → Prop} {RA : List V → Hp → Prop} {r : R2} {RS : L2.St → Hp → Prop} {b : Bool} {K : PySem.W.Frag}
theorem r_seq (h : t { D with nx := u D } σ H) : tSeq t u D σ H := h
theorem r_next (h : D.nx σ H) : tNext D σ H := h
theorem r_set (h : te σ H fun x H1 => D.nx (σ.set i (some x)) H1) : tAsg te (gName i) D σ H := h
theorem r_par (h : ts σ H (twoK fun v w H1 => D.nx ((σ.set i (some v)).set j (some w)) H1)) : tPar i j ts D σ H := h
theorem r_two {f : V → V → Hp → Prop} (h : f x y H) : twoK f [x, y] H := ⟨x, y, rfl, h⟩
def threeK (f : V → V → V → Hp → Prop) : List V → Hp → Prop := fun vs H => ∃ u v w, vs = [u, v, w] ∧ f u v w H
theorem r_par3 {l : Nat} (h : ts σ H (threeK fun u v w H1 => D.nx (((σ.set i (some u)).set j (some v)).set l (some w)) H1)) : tPar3 i j l ts D σ H := h
theorem r_three {f : V → V → V → Hp → Prop} {z : V} (h : f x y z H) : threeK f [x, y, z] H := ⟨x, y, z, rfl, h⟩
theorem r_ret (h : te σ H D.rt) : tRet te D σ H := h
theorem r_drop (h : te σ H fun _ H1 => D.nx σ H1) : tDrop te D σ H := h
theorem r_if (h : c σ H (ifS t u D σ)) : tIfS c t u D σ H := h
theorem r_ifs (h1 : b = true → t D σ H) (h2 : b = false → u D σ H) : ifS t u D σ b H := by
  cases b with
  | true => exact h1 rfl
  | false => exact h2 rfl
theorem r_yes (e : b = true) (h : t D σ H) : ifS t u D σ b H := r_ifs (fun _ => h) fun z => by rw [e] at z; cases z
theorem r_no (e : b = false) (h : u D σ H) : ifS t u D σ b H := r_ifs (fun z => by rw [e] at z; cases z) fun _ => h
theorem r_ife (h1 : b = true → ta σ H Q) (h2 : b = false → tb σ H Q) : ifE ta tb σ Q b H := by
  cases b with
  | true => exact h1 rfl
  | false => exact h2 rfl
theorem r_ifx (h : c σ H (ifE ta tb σ Q)) : tIf c ta tb σ H Q := h
theorem r_and (h : c σ H (andK d σ R)) : tAnd c d σ H R := h
theorem r_or (h : c σ H (orK d σ R)) : tOr c d σ H R := h
theorem r_andk (h1 : b = true → d σ H R) (h2 : b = false → R false H) : andK d σ R b H := by
  cases b with
  | true => exact h1 rfl
  | false => exact h2 rfl
theorem r_ork (h1 : b = true → R true H) (h2 : b = false → d σ H R) : orK d σ R b H := by
  cases b with
  | true => exact h1 rfl
  | false => exact h2 rfl
theorem r_not (h : c σ H fun b H1 => R (!b) H1) : tNot c σ H R := h
theorem r_andV (h : ta σ H (andV tb σ Q)) : tAndV ta tb σ H Q := h
theorem r_orV (h : ta σ H (orV tb σ Q)) : tOrV ta tb σ H Q := h
theorem r_notV (h : ta σ H (notV Q)) : tNotV ta σ H Q := h
theorem r_nv (h : Q (.bl (!b)) H) : notV Q (.bl b) H := ⟨b, rfl, h⟩
theorem r_av (h1 : b = true → tb σ H Q) (h2 : b = false → Q (.bl false) H) : andV tb σ Q (.bl b) H := ⟨b, rfl, by
  cases b with
  | true => exact h1 rfl
  | false => exact h2 rfl⟩
theorem r_ov (h1 : b = true → Q (.bl true) H) (h2 : b = false → tb σ H Q) : orV tb σ Q (.bl b) H := ⟨b, rfl, by
  cases b with
  | true => exact h1 rfl
  | false => exact h2 rfl⟩
theorem r_var (h : σ[i]? = some (some v)) (q : Q v H) : tVar i σ H Q := ⟨v, h, q⟩
theorem r_c (q : Q v H) : tC v σ H Q := q
theorem r_op (h : ta σ H fun x H1 => tb σ H1 fun y H2 => r x y H2 Q) : tOp r ta tb σ H Q := h
theorem r_un {f : V → Hp → VK → Prop} (h : ta σ H fun x H1 => f x H1 Q) : tUn f ta σ H Q := h
theorem r_I0 {g : Int → Int → V} {a b : Int} (q : Q (g a b) H) : rI0 g (.int a) (.int b) H Q := ⟨a, b, rfl, rfl, q⟩
theorem r_I {C : Int → Int → Prop} {g : Int → Int → V} {a b : Int} (hc : C a b) (q : Q (g a b) H) : rI C g (.int a) (.int b) H Q := ⟨a, b, rfl, rfl, hc, q⟩
theorem r_U {g : Int → V} {a : Int} (q : Q (g a) H) : rU g (.int a) H Q := ⟨a, rfl, q⟩
theorem r_eq (hs : scal x y = true) (q : Q (.bl (decide (x = y))) H) : rEq x y H Q := ⟨hs, q⟩
theorem r_ne (hs : scal x y = true) (q : Q (.bl (!decide (x = y))) H) : rNe x y H Q := ⟨hs, q⟩
theorem r_test (h : te σ H (bK R)) : tTest te σ H R := h
theorem r_tB (h : te σ H (bK R)) : tB te σ H R := h
theorem r_bl (q : R b H) : bK R (.bl b) H := ⟨b, rfl, q⟩
theorem r_tup (h : ts σ H (newT Q)) : tTup ts σ H Q := h
theorem r_lst (h : ts σ H (newL Q)) : tLst ts σ H Q := h
theorem r_newT {xs : List V} (hl : xs.length ≤ 1000) (h : ∀ p, H p = none → Q (.ref p) (upd H p (.tup xs))) : newT Q xs H := ⟨Nat.le_of_lt (small1000 hl), h⟩
theorem r_newL {xs : List V} (hl : xs.length ≤ 1000) (h : ∀ p, H p = none → Q (.ref p) (upd H p (.lst xs))) : newL Q xs H := ⟨Nat.le_of_lt (small1000 hl), h⟩
theorem r_nil (q : RA [] H) : tNil σ H RA := q
theorem r_cons (h : te σ H fun x H1 => ts σ H1 fun xs H2 => RA (x :: xs) H2) : tCons te ts σ H RA := h
theorem r_cb {f : List V → Hp → VK → Prop} (h : ts σ H fun vs H1 => f vs H1 Q) : tCB f ts σ H Q := h
theorem r_call {sp : Sp} {E : L2.St → XK} (h : ts σ H fun vs H1 => sp vs H1 Q (E σ)) : tCallS sp E ts σ H Q := h
theorem r_ck {sp : Sp} {E : L2.St → XK} {gV : List V → List V → List V} {tk : TA} (h : ts σ H fun vs H1 => tk σ H1 fun zs H2 => sp (gV vs zs) H2 Q (E σ)) : tCK sp gV E ts tk σ H Q := h
theorem r_abs {a : Int} (q : Q (.int (if a < 0 then -a else a)) H) : rAbs [.int a] H Q := ⟨a, rfl, q⟩
theorem r_int {a : Int} (q : Q (.int a) H) : rInt [.int a] H Q := .inl ⟨a, rfl, q⟩
theorem r_intb (q : Q (.int (if b then 1 else 0)) H) : rInt [.bl b] H Q := .inr ⟨b, rfl, q⟩
theorem r_len {a : Addr} {xs : List V} (hs : SqL K H a xs ∨ SqT K H a xs) (q : Q (.int xs.length) H) : rLen K [.ref a] H Q := ⟨a, xs, rfl, hs, q⟩
theorem r_dget {td ty : TE} (h : td σ H fun x H1 => ty σ H1 fun y H2 => gK Q x y H2) : tDGet td ty σ H Q := h
theorem r_dput {td ty tv : TE} (h : tv σ H fun v H1 => td σ H1 fun x H2 => ty σ H2 fun y H3 => pK v (fun H4 => D.nx σ H4) x y H3) : sDPut td ty tv D σ H := h
theorem r_gName (h : RS (σ.set i (some v)) H) : gName i v σ H RS := h
theorem r_bm {T : String} {f : V → List V → Hp → VK → Prop} (h : te σ H (bmK K T f σ ts Q)) : tBM K T f te ts σ H Q := h
theorem r_bm0 {T : String} {f : V → List V → Hp → VK → Prop} (h : te σ H (bmK K T f σ tNil Q)) : tBM0 K T f te σ H Q := h
theorem r_sl {f : V → Option Int → Option Int → Hp → VK → Prop} {tl th : TO} (h : te σ H fun x H1 => tl σ H1 fun l H2 => th σ H2 fun u H3 => f x l u H3 Q) : tSl f te tl th σ H Q := h
theorem r_none {RO : Option Int → Hp → Prop} (h : RO none H) : tNoPart σ H RO := h
theorem r_some {RO : Option Int → Hp → Prop} (h : te σ H (iK RO)) : tPart te σ H RO := h
theorem r_someI {RO : Option Int → Hp → Prop} {a : Int} (h : RO (some a) H) : iK RO (.int a) H := ⟨a, rfl, h⟩
theorem r_aug {ti : TIp} (h : σ[i]? = some (some x)) (q : te σ H fun y H1 => ti x y H1 fun z H2 => D.nx (σ.set i (some z)) H2) : tAug i te ti D σ H := ⟨x, h, q⟩
theorem r_slL {a : Addr} {xs : List V} {lo hi : Option Int} (hs : SqL K H a xs) (h : ∀ p, H p = none → Q (.ref p) (upd H p (.lst (cutV xs lo hi)))) : rSlL K (.ref a) lo hi H Q := ⟨a, xs, rfl, hs, h⟩
theorem r_ixL {a : Addr} {xs : List V} {m : Int} (hs : SqL K H a xs) (he : atI xs m = some v) (q : Q v H) : rIxL K (.ref a) (.int m) H Q := ⟨a, xs, m, v, rfl, rfl, hs, he, q⟩
theorem r_ixT {a : Addr} {xs : List V} {m : Int} (hs : SqT K H a xs) (he : atI xs m = some v) (q : Q v H) : rIxT K (.ref a) (.int m) H Q := ⟨a, xs, m, v, rfl, rfl, hs, he, q⟩
end
end VB

/-! VB4: the deck of draws, and what stands beside it -/
namespace VB
open PySem PySem.Spec PyProof.Rows L2
/-! ### the heap without the deck's own objects -/
def hid (d l : Addr) (H : Hp) : Hp := fun a => if a = d ∨ a = l then none else H a
section
variable {d l a : Addr} {H H' H1 : Hp} {o : HO} {K : PySem.W.Frag} {xs : List V}
theorem hid_get (h1 : a ≠ d) (h2 : a ≠ l) : hid d l H a = H a := if_neg fun z => z.elim h1 h2
theorem hid_d : hid d l H d = none := if_pos (.inl rfl)
theorem hid_l : hid d l H l = none := if_pos (.inr rfl)
theorem hid_none (h : H a = none) : hid d l H a = none := by
  unfold hid
  split
  · rfl
  · exact h
theorem hid_some (h : hid d l H a = some o) : a ≠ d ∧ a ≠ l ∧ H a = some o := by
  unfold hid at h
  split at h
  · cases h
  · rename_i z
    exact ⟨fun e => z (.inl e), fun e => z (.inr e), h⟩
theorem hid_sub : Same (hid d l H) H := fun _ _ h => (hid_some h).2.2
theorem same_hid (h : Same H H') : Same (hid d l H) (hid d l H') := fun b o e => by
  obtain ⟨h1, h2, h3⟩ := hid_some e
  rw [hid_get h1 h2]
  exact h b o h3
theorem hid_upd (h1 : a ≠ d) (h2 : a ≠ l) : hid d l (upd H a o) = upd (hid d l H) a o := by
  funext b
  by_cases e : b = a
  · subst e
    rw [hid_get h1 h2, upd_same, upd_same]
  · rw [upd_ne e]
    unfold hid
    rw [upd_ne e]
theorem hid_updd : hid d l (upd H d o) = hid d l H := by
  funext b
  unfold hid
  by_cases e : b = d
  · rw [if_pos (.inl e), if_pos (.inl e)]
  · rw [upd_ne e]
theorem hid_updl : hid d l (upd H l o) = hid d l H := by
  funext b
  unfold hid
  by_cases e : b = l
  · rw [if_pos (.inr e), if_pos (.inr e)]
  · rw [upd_ne e]
theorem same_new (h : H a = none) : Same H (upd H a o) := fun b x e => by
  rw [upd_ne (ne_of_none e h)]
  exact e
theorem seqT_same (e : Same H H') (h : SqT K H a xs) : SqT K H' a xs := by
  rcases h with (h | ⟨ob, h⟩) | h
  · exact .inl (.inl (e _ _ h))
  · exact .inl (.inr ⟨ob, e _ _ h⟩)
  · exact .inr h
theorem seqL_same (e : Same H H') (h : SqL K H a xs) : SqL K H' a xs := e.seq h
mutual
theorem dp_same (e : Same H H') : ∀ (x : PyData) (v : V), Dp K H v x → Dp K H' v x
  | .none, _, h => by cases h; exact .non
  | .bool _, _, h => by cases h; exact .bl _
  | .int _, _, h => by cases h; exact .int _
  | .str _, _, h => by cases h; exact .str _
  | .list ds, _, h => by
    cases h with
    | lst hs ha => exact .lst (seqL_same e hs) (dpa_same e ds _ ha)
  | .tuple ds, _, h => by
    cases h with
    | tup hs ha => exact .tup (seqT_same e hs) (dpa_same e ds _ ha)
  | .dict _, _, h => by cases h
theorem dpa_same (e : Same H H') : ∀ (ds : List PyData) (vs : List V), DpAll K H vs ds → DpAll K H' vs ds
  | [], _, h => by cases h; exact .nil
  | x :: ds, _, h => by
    cases h with
    | cons h1 h2 => exact .cons (dp_same e x _ h1) (dpa_same e ds _ h2)
end
theorem Dp.up (e : Same H H') {x : PyData} {v : V} (h : Dp K H v x) : Dp K H' v x := dp_same e x v h
theorem DpAll.up (e : Same H H') {ds : List PyData} {vs : List V} (h : DpAll K H vs ds) : DpAll K H' vs ds := dpa_same e ds vs h
end
/-! ### the deck -/
abbrev kG : Key := .inr "great"
abbrev kS : Key := .inr "stirred"
abbrev kT : Key := .inr "turn"
theorem kGS : ¬ kG = kS := by decide +kernel
theorem kGT : ¬ kG = kT := by decide +kernel
theorem kST : ¬ kS = kT := by decide +kernel
structure DeckOk (H : Hp) (d l : Addr) : Prop where
  dict : ∃ (kvs : List (Key × V)) (st tn : Int), H d = some (.dK kvs) ∧ kvs.length ≤ 100 ∧ valV kvs kG = some (.ref l) ∧ valV kvs kS = some (.int st) ∧ valV kvs kT = some (.int tn) ∧ 0 ≤ st
  list : ∃ ns : List Int, H l = some (.lst (ns.map V.int)) ∧ (∀ n ∈ ns, 0 ≤ n) ∧ ns.length ≤ 100
theorem DeckOk.up {H H' : Hp} {d l : Addr} (e : Same H H') (h : DeckOk H d l) : DeckOk H' d l := by
  obtain ⟨⟨kvs, st, tn, h1, h2⟩, ⟨ns, h3, h4⟩⟩ := h
  exact ⟨⟨kvs, st, tn, e _ _ h1, h2⟩, ⟨ns, e _ _ h3, h4⟩⟩
theorem DeckOk.ne {H : Hp} {d l p : Addr} (h : DeckOk H d l) (hp : H p = none) : p ≠ d ∧ p ≠ l := by
  obtain ⟨⟨kvs, st, tn, h1, _⟩, ⟨ns, h3, _⟩⟩ := h
  exact ⟨(ne_of_none h1 hp).symm, (ne_of_none h3 hp).symm⟩
theorem DeckOk.upo {H : Hp} {d l p : Addr} {o : HO} (h : DeckOk H d l) (h1 : p ≠ d) (h2 : p ≠ l) : DeckOk (upd H p o) d l := by
  obtain ⟨⟨kvs, st, tn, g1, g2⟩, ⟨ns, g3, g4⟩⟩ := h
  exact ⟨⟨kvs, st, tn, by rw [upd_ne h1.symm]; exact g1, g2⟩, ⟨ns, by rw [upd_ne h2.symm]; exact g3, g4⟩⟩
theorem DeckOk.dl {H : Hp} {d l : Addr} (h : DeckOk H d l) : d ≠ l := by
  obtain ⟨⟨kvs, st, tn, h1, _⟩, ⟨ns, h3, _⟩⟩ := h
  exact ne_of h1 h3 (by intro z; cases z)
/-- the deck has gone on; all else stands -/
structure Adv (d l : Addr) (H H' : Hp) : Prop where
  ok : DeckOk H' d l
  st : Same (hid d l H) (hid d l H')
theorem Adv.refl {d l : Addr} {H : Hp} (h : DeckOk H d l) : Adv d l H H := ⟨h, Same.refl _⟩
theorem Adv.trans {d l : Addr} {H H1 H2 : Hp} (a : Adv d l H H1) (b : Adv d l H1 H2) : Adv d l H H2 := ⟨b.ok, a.st.trans b.st⟩
theorem Adv.same {d l : Addr} {H H1 : Hp} (h : DeckOk H d l) (e : Same H H1) : Adv d l H H1 := ⟨h.up e, same_hid e⟩
theorem Adv.new {d l p : Addr} {H : Hp} {o : HO} (h : DeckOk H d l) (hp : H p = none) : Adv d l H (upd H p o) := .same h (same_new hp)
theorem Adv.mut {d l p : Addr} {H H1 : Hp} {o : HO} (a : Adv d l H H1) (h : DeckOk H d l) (hp : H p = none) : Adv d l H (upd H1 p o) := by
  obtain ⟨h1, h2⟩ := h.ne hp
  refine ⟨?_, ?_⟩
  · exact a.ok.upo h1 h2
  · rw [hid_upd h1 h2]
    intro b x e
    rw [upd_ne (ne_of_none e (hid_none hp))]
    exact a.st b x e
/-- promise: a draw below m -/
def spDraw : Sp := fun vs H Q _ => ∃ (d l : Addr) (m : Int), vs = [.ref d, .int m] ∧ DeckOk H d l ∧ m.natAbs.log2 < 9000 ∧
  ∀ r H', Adv d l H H' → 0 ≤ r → (r < m ∨ r = 0) → Q (.int r) H'
/-- promise: one of the items -/
def spPick (K : PySem.W.Frag) : Sp := fun vs H Q _ => ∃ (d l q : Addr) (xs : List V), vs = [.ref d, .ref q] ∧ DeckOk H d l ∧ SqL K (hid d l H) q xs ∧ 0 < xs.length ∧ xs.length ≤ 1000 ∧
  ∀ v H', Adv d l H H' → v ∈ xs → Q v H'
/-- promise: the deck of a script -/
def spDeck (K : PySem.W.Frag) : Sp := fun vs H Q _ => ∃ (a : Addr) (ns : List Int), vs = [.ref a] ∧ SqL K H a (ns.map V.int) ∧ ns.length ≤ 63 ∧
  ∀ d l H', H d = none → H l = none → Same H H' → DeckOk H' d l → Q (.ref d) H'
theorem pk_deck {K : PySem.W.Frag} {vs : List V} {H : Hp} {Q : VK} {E : XK} (h : spDraw vs H Q E) : vs.length = 2 := by
  obtain ⟨d, l, m, rfl, _⟩ := h
  rfl
theorem log2_small {m : Int} (h : m.natAbs < 2 ^ 100) : m.natAbs.log2 < 9000 := by
  by_cases z : m.natAbs = 0
  · rw [z]; decide
  · have := (Nat.log2_lt z).mpr h
    omega
theorem put_len {kvs : List (Key × V)} {k : Key} {v x : V} (h : valV kvs k = some x) : (putK kvs k v).length = kvs.length := by
  unfold putK
  rw [valV_any, h]
  simp
/-- the built-in names that no module here takes -/
structure Blt (mg : Str → Option Value) : Prop where
  abs : mg "abs" = none
  int : mg "int" = none
  len : mg "len" = none
  range : mg "range" = none
  repr : mg "repr" = none
  isinstance : mg "isinstance" = none
  tuple : mg "tuple" = none
  list : mg "list" = none
  str : mg "str" = none
  sum : mg "sum" = none
  all : mg "all" = none
  any : mg "any" = none
  zip : mg "zip" = none
  enumerate : mg "enumerate" = none
  sorted : mg "sorted" = none
  reversed : mg "reversed" = none
  bool : mg "bool" = none
  dict : mg "dict" = none
  max : mg "max" = none
  min : mg "min" = none
  ord : mg "ord" = none
  chr : mg "chr" = none
  divmod : mg "divmod" = none
  set : mg "set" = none
theorem blt_mk {K : PySem.W.Frag} {h : Heap} {mg : Str → Option Value} (X : K.In h) (G : h.Ns mainGlobals mg)
    (z1 : PySem.W.nsIn K mainGlobals "abs" = some none) (z2 : PySem.W.nsIn K mainGlobals "int" = some none) (z3 : PySem.W.nsIn K mainGlobals "len" = some none) (z4 : PySem.W.nsIn K mainGlobals "range" = some none) (z5 : PySem.W.nsIn K mainGlobals "repr" = some none) (z6 : PySem.W.nsIn K mainGlobals "isinstance" = some none) (z7 : PySem.W.nsIn K mainGlobals "tuple" = some none) (z8 : PySem.W.nsIn K mainGlobals "list" = some none) (z9 : PySem.W.nsIn K mainGlobals "str" = some none) (z10 : PySem.W.nsIn K mainGlobals "sum" = some none) (z11 : PySem.W.nsIn K mainGlobals "all" = some none) (z12 : PySem.W.nsIn K mainGlobals "any" = some none) (z13 : PySem.W.nsIn K mainGlobals "zip" = some none) (z14 : PySem.W.nsIn K mainGlobals "enumerate" = some none) (z15 : PySem.W.nsIn K mainGlobals "sorted" = some none) (z16 : PySem.W.nsIn K mainGlobals "reversed" = some none) (z17 : PySem.W.nsIn K mainGlobals "bool" = some none) (z18 : PySem.W.nsIn K mainGlobals "dict" = some none) (z19 : PySem.W.nsIn K mainGlobals "max" = some none) (z20 : PySem.W.nsIn K mainGlobals "min" = some none) (z21 : PySem.W.nsIn K mainGlobals "ord" = some none) (z22 : PySem.W.nsIn K mainGlobals "chr" = some none) (z23 : PySem.W.nsIn K mainGlobals "divmod" = some none) (z24 : PySem.W.nsIn K mainGlobals "set" = some none) : Blt mg :=
  ⟨PySem.W.mg_none_of X G z1, PySem.W.mg_none_of X G z2, PySem.W.mg_none_of X G z3, PySem.W.mg_none_of X G z4, PySem.W.mg_none_of X G z5, PySem.W.mg_none_of X G z6, PySem.W.mg_none_of X G z7, PySem.W.mg_none_of X G z8, PySem.W.mg_none_of X G z9, PySem.W.mg_none_of X G z10, PySem.W.mg_none_of X G z11, PySem.W.mg_none_of X G z12, PySem.W.mg_none_of X G z13, PySem.W.mg_none_of X G z14, PySem.W.mg_none_of X G z15, PySem.W.mg_none_of X G z16, PySem.W.mg_none_of X G z17, PySem.W.mg_none_of X G z18, PySem.W.mg_none_of X G z19, PySem.W.mg_none_of X G z20, PySem.W.mg_none_of X G z21, PySem.W.mg_none_of X G z22, PySem.W.mg_none_of X G z23, PySem.W.mg_none_of X G z24⟩
/-- an own exception class, as the top has made it -/
structure ErrC (K : PySem.W.Frag) (mg : Str → Option Value) (x : Str) (C : Addr) : Prop where
  ex : PySem.W.excIn K C [.type "ValueError", .type "Exception", .type "BaseException", .type "object"] "ValueError.__new__" = true
  gl : mg x = some (.ref C)
  kp : PySem.W.keepIn K (.ref C) = true
  sb : PySem.W.subIn K (.ref C) (.type "BaseException") = some true
  ty : PySem.W.typeIn K (.ref C) = some (.type "type")
end VB

/-! VB5: readings of the deck's pieces -/
namespace VB
open PySem PySem.Spec PyProof.Rows L2
section
variable {d l p : Addr} {H : Hp} {K : PySem.W.Frag} {kvs : List (Key × V)} {k : Key} {v : V} {Q : VK} {ns : List Int} {xs : List V}
theorem r_dgetK (hd : H d = some (.dK kvs)) (hv : valV kvs k = some v) (q : Q v H) : gK Q (.ref d) (kV k) H :=
  ⟨d, v, rfl, hv ▸ DGet.k (k := k) hd, q⟩
theorem r_dputK {S : Hp → Prop} (hd : H d = some (.dK kvs)) (hl : kvs.length ≤ 1000) (q : S (upd H d (.dK (putK kvs k v)))) : pK v S (.ref d) (kV k) H :=
  ⟨d, _, rfl, DPut.k (k := k) hd (small1000 hl), q⟩
theorem ints_can : ∀ ns : List Int, PyData.canLayAll0 (ns.map PyData.int) = true
  | [] => rfl
  | n :: r => by
    show ((PyData.int n).canLay0 && PyData.canLayAll0 (r.map PyData.int)) = true
    rw [ints_can r]
    rfl
theorem ints_depth : ∀ ns : List Int, PyData.depthAll (ns.map PyData.int) = 0
  | [] => rfl
  | n :: r => by
    show max (PyData.depth (.int n)) (PyData.depthAll (r.map PyData.int)) = 0
    rw [ints_depth r]
    rfl
theorem ints_shaped (ns : List Int) : SeqAt.shaped (.list (ns.map PyData.int)) = true := by
  show (PyData.canLayAll0 (ns.map PyData.int) && decide (PyData.depthAll (ns.map PyData.int) + 1 ≤ 64)) = true
  rw [ints_can, ints_depth]
  rfl
theorem dpa_ints : ∀ ns : List Int, DpAll K H (ns.map V.int) (ns.map PyData.int)
  | [] => .nil
  | _ :: r => .cons (.int _) (dpa_ints r)
theorem eqv_nil : ∀ ns : List Int, PyData.eqv (.list (ns.map PyData.int)) (.list []) = ns.isEmpty
  | [] => rfl
  | _ :: _ => rfl
theorem r_neNil (hl : SqL K H l (ns.map V.int)) (hp : SqL K H p []) (q : Q (.bl (!ns.isEmpty)) H) : rNeD K (.ref l) (.ref p) H Q :=
  ⟨.list (ns.map PyData.int), .list [], .lst hl (dpa_ints ns), .lst hp .nil, ints_shaped ns, ints_shaped [], by rw [eqv_nil]; exact q⟩
theorem r_pop {σ : L2.St} {y : V} (hl : H l = some (.lst xs)) (hy : xs[xs.length - 1]? = some y) (q : Q y (upd H l (.lst xs.dropLast))) : bmK K "list" rPop σ tNil Q (.ref l) H :=
  ⟨.inl ⟨rfl, _, SqL.of hl⟩, l, xs, y, rfl, rfl, hl, hy, q⟩
theorem r_tyL {σ : L2.St} {ts : TA} {f : V → List V → Hp → VK → Prop} (hl : H l = some (.lst xs)) (q : ts σ H fun xs H2 => f (.ref l) xs H2 Q) : bmK K "list" f σ ts Q (.ref l) H := ⟨.inl ⟨rfl, _, SqL.of hl⟩, q⟩
theorem r_app {y : V} (hl : H l = some (.lst xs)) (hz : xs.length ≤ 1000) (q : Q .non (upd H l (.lst (xs ++ [y])))) : rAppend (.ref l) [y] H Q := ⟨l, xs, y, rfl, rfl, hl, small1000 hz, q⟩
end
theorem last_int {ns : List Int} (h : ns ≠ []) : ∃ (r : List Int) (c : Int), ns = r ++ [c] ∧ (ns.map V.int)[(ns.map V.int).length - 1]? = some (.int c) ∧ (ns.map V.int).dropLast = r.map V.int := by
  refine ⟨ns.dropLast, ns.getLast h, (List.dropLast_concat_getLast h).symm, ?_, ?_⟩
  · rw [List.getElem?_map, List.length_map, ← List.getLast?_eq_getElem?, List.getLast?_eq_some_getLast h]
    rfl
  · rw [← List.map_dropLast]
theorem fdiv_nn {a b : Int} (h1 : 0 ≤ a) (h2 : 0 ≤ b) : 0 ≤ a.fdiv b := by
  rw [Int.fdiv_eq_ediv_of_nonneg a h2]
  exact Int.ediv_nonneg h1 h2
theorem fmod_lt {a b : Int} (h2 : 2 ≤ b) : 0 ≤ a.fmod b ∧ a.fmod b < b := by
  rw [Int.fmod_eq_emod_of_nonneg a (by omega)]
  exact ⟨Int.emod_nonneg a (by omega), Int.emod_lt_of_pos a (by omega)⟩
theorem mul_small {a b : Int} (h1 : 0 ≤ a) (h2 : a < 18446744073709551616) : IntMulOk a b := CMul.ok (.inl ⟨by omega, by omega⟩)
theorem mul_smallR {a b : Int} (h1 : 0 ≤ b) (h2 : b < 18446744073709551616) : IntMulOk a b := CMul.ok (.inr ⟨by omega, by omega⟩)
end VB

/-! VB6: loops and comprehensions, by named wishes -/
namespace VB
open PySem PySem.Spec PyProof.Rows L2
/-! ### what is walked -/
def lK (K : PySem.W.Frag) (R : It → Hp → Prop) : VK := fun x H => ∃ a, x = .ref a ∧ (∃ xs, SqL K H a xs) ∧ R (Itl K a) H
def tK (K : PySem.W.Frag) (R : It → Hp → Prop) : VK := fun x H => ∃ a, x = .ref a ∧ (∃ xs, SqT K H a xs) ∧ R (Itt K a) H
def gK1 (R : It → Hp → Prop) : List V → Hp → Prop := fun vs H => ∃ j : Int, vs = [.int j] ∧ -(2 ^ 62) ≤ j ∧ j < 2 ^ 62 ∧ R (Itr 0 j.toNat) H
def gK2 (R : It → Hp → Prop) : List V → Hp → Prop := fun vs H => ∃ i j : Int, vs = [.int i, .int j] ∧ (-(2 ^ 62) ≤ i ∧ i < 2 ^ 62 ∧ -(2 ^ 62) ≤ j ∧ j < 2 ^ 62) ∧ R (Itr i (j - i).toNat) H
def forK (g : TG) (tb : TS) (D : Ends) (σ : L2.St) : It → Hp → Prop := fun J H1 => ∃ W : Nat → Nat → L2.St → Hp → Prop, (∃ m, W 0 m σ H1) ∧ ∀ i m σ H, W i m σ H →
  (J.stop i H ∧ D.nx σ H) ∨ (J.go i H ∧ ∃ N : L2.St → Hp → Prop, (∀ σ' H', N σ' H' → ∃ m', m' < m ∧ W (i + 1) m' σ' H') ∧ ∀ x H', J.yld i H x H' → g x σ H' fun σ2 H2 => tb { D with nx := N, ct := N, bk := D.nx } σ2 H2)
/-- a comprehension's kept item goes to the list at D -/
def apK (D : Addr) (S : Hp → Prop) : VK := fun y H4 => ∃ acc, H4 D = some (.lst acc) ∧ acc.length < sizeLine ∧ S (upd H4 D (.lst (acc ++ [y])))
def cK (te : TE) (σ2 : L2.St) (D : Addr) (S : Hp → Prop) : Bool → Hp → Prop := fun b H3 => if b = true then te σ2 H3 (apK D S) else S H3
def wK (vs : List Nat) (σ : L2.St) (tt : TT) (te : TE) (D : Addr) (S : Hp → Prop) : L2.St → Hp → Prop := fun σ2 H2 => wipe σ2 vs = wipe σ vs ∧ tt σ2 H2 (cK te σ2 D S)
def lcK (g : TG) (tt : TT) (te : TE) (vs : List Nat) (σ : L2.St) (Q : VK) : It → Hp → Prop := fun J H1 => ∀ D, H1 D = none → ∃ W : Nat → Nat → Hp → Prop, (∃ m, W 0 m (upd H1 D (.lst []))) ∧ ∀ i m H, W i m H →
  (J.stop i H ∧ Q (.ref D) H) ∨ (J.go i H ∧ ∃ Nx : Hp → Prop, (∀ H', Nx H' → ∃ m', m' < m ∧ W (i + 1) m' H') ∧ ∀ x H', J.yld i H x H' → g x (wipe σ vs) H' (wK vs σ tt te D Nx))
section
variable {σ : L2.St} {H : Hp} {D : Ends} {i : Nat} {v x y : V} {tl te : TE} {t u tb : TS} {tt : TT} {ts : TA} {Q : VK} {R : It → Hp → Prop} {g : TG} {K : PySem.W.Frag} {a : Addr} {xs : List V} {vs : List Nat} {wi : TI} {S : Hp → Prop} {E : Addr}
theorem r_iL (h : tl σ H (lK K R)) : iList K tl σ H R := h
theorem r_iT (h : tl σ H (tK K R)) : iTup K tl σ H R := h
theorem r_lk (hs : SqL K H a xs) (h : R (Itl K a) H) : lK K R (.ref a) H := ⟨a, rfl, ⟨_, hs⟩, h⟩
theorem r_tk (hs : SqT K H a xs) (h : R (Itt K a) H) : tK K R (.ref a) H := ⟨a, rfl, ⟨_, hs⟩, h⟩
theorem r_rng1 (h : ts σ H (gK1 R)) : iRng1 ts σ H R := h
theorem r_rng2 (h : ts σ H (gK2 R)) : iRng2 ts σ H R := h
theorem r_rk {j : Int} (h1 : -1000000 ≤ j) (h2 : j ≤ 1000000) (h : R (Itr 0 j.toNat) H) : gK1 R [.int j] H := ⟨j, rfl, by omega, by omega, h⟩
theorem r_rk2 {i j : Int} (h1 : -1000000 ≤ i ∧ i ≤ 1000000) (h2 : -1000000 ≤ j ∧ j ≤ 1000000) (h : R (Itr i (j - i).toNat) H) : gK2 R [.int i, .int j] H := ⟨i, j, rfl, by omega, h⟩
theorem r_for (h : wi σ H (forK g tb D σ)) : tFor wi g tb D σ H := h
theorem r_forL (Pv : Nat → L2.St → Hp → Prop) (h0 : Pv 0 σ H) (hl : ∀ i σ H, i ≤ xs.length → Pv i σ H → SqL K H a xs)
    (hs : ∀ i x σ H, xs[i]? = some x → Pv i σ H → g x σ H fun σ2 H2 => tb { D with nx := Pv (i + 1), ct := Pv (i + 1), bk := D.nx } σ2 H2) (hd : ∀ σ H, Pv xs.length σ H → D.nx σ H) :
    forK g tb D σ (Itl K a) H := for_list Pv h0 hl hs hd
theorem r_forT (Pv : Nat → L2.St → Hp → Prop) (h0 : Pv 0 σ H) (hl : ∀ i σ H, i ≤ xs.length → Pv i σ H → SqT K H a xs)
    (hs : ∀ i x σ H, xs[i]? = some x → Pv i σ H → g x σ H fun σ2 H2 => tb { D with nx := Pv (i + 1), ct := Pv (i + 1), bk := D.nx } σ2 H2) (hd : ∀ σ H, Pv xs.length σ H → D.nx σ H) :
    forK g tb D σ (Itt K a) H := for_tup Pv h0 hl hs hd
theorem r_forR {lo : Int} {n : Nat} (Pv : Nat → L2.St → Hp → Prop) (h0 : Pv 0 σ H)
    (hs : ∀ i σ H, i < n → Pv i σ H → g (.int (lo + i)) σ H fun σ2 H2 => tb { D with nx := Pv (i + 1), ct := Pv (i + 1), bk := D.nx } σ2 H2) (hd : ∀ σ H, Pv n σ H → D.nx σ H) :
    forK g tb D σ (Itr lo n) H := for_range Pv h0 hs hd
theorem r_lc (h : wi σ H (lcK g tt te vs σ Q)) : tLc wi g tt te vs σ H Q := h
theorem r_ap {acc : List V} (h : H E = some (.lst acc)) (hl : acc.length ≤ 1000) (q : S (upd H E (.lst (acc ++ [y])))) : apK E S y H := ⟨acc, h, small1000 hl, q⟩
theorem r_wk {σ2 : L2.St} (e : wipe σ2 vs = wipe σ vs) (h : tt σ2 H (cK te σ2 E S)) : wK vs σ tt te E S σ2 H := ⟨e, h⟩
theorem r_ck1 {σ2 : L2.St} (h : te σ2 H (apK E S)) : cK te σ2 E S true H := h
theorem r_ck0 {σ2 : L2.St} (h : S H) : cK te σ2 E S false H := h
theorem r_yesT {RR : Bool → Hp → Prop} (h : RR true H) : tYes σ H RR := h
/-- over a list: by an invariant of the turn and the heap, the new list's address given -/
theorem r_lcL (Pv : Addr → Nat → Hp → Prop) (h0 : ∀ E, H E = none → Pv E 0 (upd H E (.lst []))) (hl : ∀ E i H', H E = none → i ≤ xs.length → Pv E i H' → SqL K H' a xs)
    (hs : ∀ E i x H', H E = none → xs[i]? = some x → Pv E i H' → g x (wipe σ vs) H' (wK vs σ tt te E (Pv E (i + 1)))) (hd : ∀ E H', H E = none → Pv E xs.length H' → Q (.ref E) H') :
    lcK g tt te vs σ Q (Itl K a) H := fun E hE => lc_list (xs := xs) (Pv E) (h0 E hE) (fun i H' hi => hl E i H' hE hi) (fun i x H' hx p => hs E i x H' hE hx p) (fun H' p => hd E H' hE p)
theorem r_lcT (Pv : Addr → Nat → Hp → Prop) (h0 : ∀ E, H E = none → Pv E 0 (upd H E (.lst []))) (hl : ∀ E i H', H E = none → i ≤ xs.length → Pv E i H' → SqT K H' a xs)
    (hs : ∀ E i x H', H E = none → xs[i]? = some x → Pv E i H' → g x (wipe σ vs) H' (wK vs σ tt te E (Pv E (i + 1)))) (hd : ∀ E H', H E = none → Pv E xs.length H' → Q (.ref E) H') :
    lcK g tt te vs σ Q (Itt K a) H := fun E hE => lc_tup (xs := xs) (Pv E) (h0 E hE) (fun i H' hi => hl E i H' hE hi) (fun i x H' hx p => hs E i x H' hE hx p) (fun H' p => hd E H' hE p)
theorem r_lcR {lo : Int} {n : Nat} (Pv : Addr → Nat → Hp → Prop) (h0 : ∀ E, H E = none → Pv E 0 (upd H E (.lst [])))
    (hs : ∀ E i H', H E = none → i < n → Pv E i H' → g (.int (lo + i)) (wipe σ vs) H' (wK vs σ tt te E (Pv E (i + 1)))) (hd : ∀ E H', H E = none → Pv E n H' → Q (.ref E) H') :
    lcK g tt te vs σ Q (Itr lo n) H := fun E hE => lc_range (lo := lo) (n := n) (Pv E) (h0 E hE) (fun i H' hi p => hs E i H' hE hi p) (fun H' p => hd E H' hE p)
end
theorem wipe_set {σ : L2.St} {j : Nat} {v : Option V} : wipe ((wipe σ [j]).set j v) [j] = wipe σ [j] := by
  show ((σ.set j none).set j v).set j none = σ.set j none
  rw [List.set_set, List.set_set]
theorem filt_map {xs : List V} {i : Nat} {x : V} (p : V → Bool) (f : V → V) (h : xs[i]? = some x) : ((xs.take (i + 1)).filter p).map f = if p x = true then ((xs.take i).filter p).map f ++ [f x] else ((xs.take i).filter p).map f := by
  rw [List.take_add_one, h, Option.toList_some, List.filter_append, List.map_append]
  by_cases e : p x = true
  · rw [if_pos e, List.filter_cons_of_pos e]; rfl
  · rw [if_neg e, List.filter_cons_of_neg e]; exact List.append_nil _
/-- [f(x) for x in xs if p(x)], nothing else is made on the way -/
theorem r_lcFM {σ : L2.St} {H : Hp} {j : Nat} {tt : TT} {te : TE} {Q : VK} {K : PySem.W.Frag} {a : Addr} {xs : List V} (p : V → Bool) (f : V → V) (hx : SqL K H a xs) (hn : xs.length ≤ 1000)
    (ht : ∀ x ∈ xs, ∀ (H' : Hp) (S : Bool → Hp → Prop), S (p x) H' → tt ((wipe σ [j]).set j (some x)) H' S)
    (he : ∀ x ∈ xs, p x = true → ∀ (H' : Hp) (S : VK), S (f x) H' → te ((wipe σ [j]).set j (some x)) H' S)
    (hd : ∀ E, H E = none → Q (.ref E) (upd H E (.lst ((xs.filter p).map f)))) : lcK (gName j) tt te [j] σ Q (Itl K a) H := by
  refine r_lcL (xs := xs) (fun E i H' => H' = upd H E (.lst (((xs.take i).filter p).map f))) (fun E _ => rfl) (fun E i H' hE _ e => ?_) (fun E i x H' hE hxi e => ?_) (fun E H' hE e => ?_)
  · rw [e]; exact seqL_same (same_new hE) hx
  · have hm := List.mem_of_getElem? hxi
    refine r_gName (r_wk wipe_set (ht x hm _ _ ?_))
    have fm := filt_map p f hxi
    cases c : p x with
    | true =>
      rw [c, if_pos rfl] at fm
      refine r_ck1 (he x hm c _ _ (r_ap (acc := ((xs.take i).filter p).map f) (by rw [e]; exact upd_same) ?_ ?_))
      · rw [List.length_map]
        exact Nat.le_trans (List.length_filter_le _ _) (Nat.le_trans (by rw [List.length_take]; exact Nat.min_le_right _ _) hn)
      · rw [e, upd_upd, fm]
    | false =>
      rw [c, if_neg Bool.false_ne_true] at fm
      refine r_ck0 ?_
      rw [e, fm]
  · rw [e, List.take_length]
    exact hd E hE
theorem r_lcM {σ : L2.St} {H : Hp} {j : Nat} {te : TE} {Q : VK} {K : PySem.W.Frag} {a : Addr} {xs : List V} (f : V → V) (hx : SqL K H a xs) (hn : xs.length ≤ 1000)
    (he : ∀ x ∈ xs, ∀ (H' : Hp) (S : VK), S (f x) H' → te ((wipe σ [j]).set j (some x)) H' S)
    (hd : ∀ E, H E = none → Q (.ref E) (upd H E (.lst (xs.map f)))) : lcK (gName j) tYes te [j] σ Q (Itl K a) H := by
  refine r_lcFM (fun _ => true) f hx hn (fun x _ H' S h => r_yesT h) (fun x hm _ H' S h => he x hm H' S h) fun E hE => ?_
  rw [List.filter_eq_self.mpr fun _ _ => rfl]
  exact hd E hE
/-! ### displays of dicts -/
def dispK (p : Addr) (Q : VK) : List (V × V) → Hp → Prop := fun ps H2 => H2 p = some (.dK []) ∧ ∃ kvs : List (Key × V), ps = kvs.map (fun kv => (kV kv.1, kv.2)) ∧ kvs.length ≤ 15 ∧ Q (.ref p) (upd H2 p (.dK (mergeK [] kvs)))
section
variable {σ : L2.St} {H : Hp} {Q : VK} {tk tv : TE} {trs : List (TE × TE)} {RP : List (V × V) → Hp → Prop} {p : Addr}
theorem r_disp (h : ∀ p, H p = none → tPairs trs σ (upd H p (.dK [])) (dispK p Q)) : tDisp trs σ H Q := h
theorem r_pnil (h : RP [] H) : tPairs [] σ H RP := h
theorem r_pcons (h : tk σ H fun x H1 => tv σ H1 fun y H2 => tPairs trs σ H2 fun ps H3 => RP ((x, y) :: ps) H3) : tPairs ((tk, tv) :: trs) σ H RP := h
theorem r_dispk (kvs : List (Key × V)) (h0 : H p = some (.dK [])) (hl : kvs.length ≤ 15) (q : Q (.ref p) (upd H p (.dK (mergeK [] kvs)))) : dispK p Q (kvs.map fun kv => (kV kv.1, kv.2)) H := ⟨h0, kvs, rfl, hl, q⟩
end

theorem cut_ints (ns : List Int) (n : Nat) : ∃ ms : List Int, cutV (ns.map V.int) none (some (n : Int)) = ms.map V.int ∧ ms.length ≤ n := by
  refine ⟨ns.take n, ?_, by rw [List.length_take]; exact Nat.min_le_left _ _⟩
  unfold cutV
  rw [HT.sIx_none, show HT.sIx (ns.map V.int).length (ns.map V.int).length (some (n : Int)) = min n (ns.map V.int).length from HT.sIx_nat _ _ n]
  rw [List.drop_zero, Nat.sub_zero, List.map_take, List.length_map]
  by_cases h : n ≤ ns.length
  · rw [Nat.min_eq_left h]
  · rw [Nat.min_eq_right (by omega), List.take_of_length_le (by simp), List.take_of_length_le (by simp; omega)]
def cellV (i : Int) : Int := 2 * (if i < 0 then -i else i) + (if decide (i < 0) = true then 1 else 0)
end VB

/-! VB7: sizes, fractions -/
namespace VB
open PySem PySem.Spec PyProof.Rows L2
/-! ### sizes -/
def Bd (k : Nat) (x : Int) : Prop := x.natAbs < 2 ^ k
theorem Bd.mono {j k : Nat} {x : Int} (h : Bd j x) (l : j ≤ k) : Bd k x := Nat.lt_of_lt_of_le h (Nat.pow_le_pow_right (by decide) l)
theorem Bd.mul {j k : Nat} {x y : Int} (h : Bd j x) (l : Bd k y) : Bd (j + k) (x * y) := wide_lt h l
theorem Bd.add {k : Nat} {x y : Int} (h : Bd k x) (l : Bd k y) : Bd (k + 1) (x + y) := by
  have e := Int.natAbs_add_le x y
  have h1 : x.natAbs < 2 ^ k := h
  have h2 : y.natAbs < 2 ^ k := l
  have h3 : 2 ^ (k + 1) = 2 ^ k * 2 := Nat.pow_succ ..
  show (x + y).natAbs < 2 ^ (k + 1)
  omega
theorem Bd.neg {k : Nat} {x : Int} (h : Bd k x) : Bd k (-x) := by
  show (-x).natAbs < 2 ^ k
  rw [Int.natAbs_neg]
  exact h
theorem Bd.log {k n : Nat} {x : Int} (h : Bd k x) (l : k ≤ n) (h0 : 0 < n) : x.natAbs.log2 < n := PySem.Flt.log2_lt_of h0 (h.mono l)
theorem Bd.mulOk {j k : Nat} {x y : Int} (h : Bd j x) (l : Bd k y) (e : j + k ≤ 900000 := by decide) : IntMulOk x y :=
  CMulW.ok (wide_mul (h.mono (Nat.le_succ j)) (l.mono (Nat.le_succ k)) (Nat.succ_pos _) (Nat.succ_pos _) (by omega))
theorem Bd.of_le {k : Nat} {x y : Int} (h : Bd k y) (e : x.natAbs ≤ y.natAbs) : Bd k x := Nat.lt_of_le_of_lt e h
theorem Bd.small {x : Int} (h : x.natAbs < 18446744073709551616) : Bd 64 x := by
  show x.natAbs < 2 ^ 64
  omega
/-! ### a / b in lowest terms, as both texts reckon it -/
def gcdI (a b : Int) : Int := ((Nat.gcd a.natAbs b.natAbs : Nat) : Int)
def comI (a b : Int) : Int := if b < 0 then -gcdI a b else gcdI a b
def lowA (a b : Int) : Int := a.fdiv (comI a b)
def lowB (a b : Int) : Int := b.fdiv (comI a b)
theorem gcdI_pos {a b : Int} (h : b ≠ 0) : 0 < gcdI a b := by
  have : 0 < Nat.gcd a.natAbs b.natAbs := Nat.gcd_pos_of_pos_right _ (by omega)
  show (0 : Int) < ((Nat.gcd a.natAbs b.natAbs : Nat) : Int)
  omega
theorem comI_ne {a b : Int} (h : b ≠ 0) : comI a b ≠ 0 := by
  have := gcdI_pos (a := a) h
  unfold comI
  split <;> omega
theorem comI_abs (a b : Int) : (comI a b).natAbs = Nat.gcd a.natAbs b.natAbs := by
  unfold comI gcdI
  split
  · rw [Int.natAbs_neg, Int.natAbs_natCast]
  · rw [Int.natAbs_natCast]
theorem comI_dvd (a b : Int) : comI a b ∣ a ∧ comI a b ∣ b :=
  ⟨Int.natAbs_dvd_natAbs.mp (by rw [comI_abs]; exact Nat.gcd_dvd_left _ _), Int.natAbs_dvd_natAbs.mp (by rw [comI_abs]; exact Nat.gcd_dvd_right _ _)⟩
theorem comI_le {a b : Int} (h : b ≠ 0) : (comI a b).natAbs ≤ b.natAbs := by
  rw [comI_abs]
  exact Nat.gcd_le_right _ (by omega)
theorem fdiv_exact {x c : Int} (h : c ∣ x) : x.fdiv c * c = x := Int.fdiv_mul_cancel h
theorem fdiv_abs {x c : Int} (h : c ∣ x) (h0 : c ≠ 0) : (x.fdiv c).natAbs ≤ x.natAbs := by
  have e := congrArg Int.natAbs (fdiv_exact h)
  rw [Int.natAbs_mul] at e
  rw [← e]
  exact Nat.le_mul_of_pos_right _ (by omega)
theorem lowA_bd {k : Nat} {a b : Int} (ha : Bd k a) (h : b ≠ 0) : Bd k (lowA a b) := ha.of_le (fdiv_abs (comI_dvd a b).1 (comI_ne h))
theorem lowB_bd {k : Nat} {a b : Int} (hb : Bd k b) (h : b ≠ 0) : Bd k (lowB a b) := hb.of_le (fdiv_abs (comI_dvd a b).2 (comI_ne h))
theorem lowB_pos {a b : Int} (h : b ≠ 0) : 0 < lowB a b := by
  have e := fdiv_exact (comI_dvd a b).2
  have hg := gcdI_pos (a := a) h
  have d0 : lowB a b ≠ 0 := fun z => by
    have e' : lowB a b * comI a b = b := e
    rw [z, Int.zero_mul] at e'
    exact h e'.symm
  have e' : lowB a b * comI a b = b := e
  refine Classical.byContradiction fun n => ?_
  have hn : lowB a b < 0 := by omega
  by_cases hb : b < 0
  · have hc : comI a b < 0 := by unfold comI; rw [if_pos hb]; omega
    have := Int.mul_pos_of_neg_of_neg hn hc
    omega
  · have hc : 0 < comI a b := by unfold comI; rw [if_neg hb]; exact hg
    have := Int.mul_neg_of_neg_of_pos hn hc
    omega
/-- promise: gcd, sign by sign -/
def spGcd : Sp := fun vs H Q _ => ∃ a b : Int, vs = [.int a, .int b] ∧ Q (.int (gcdI a b)) H
/-- promise: a / b, b not 0 -/
def spLow : Sp := fun vs H Q _ => ∃ a b : Int, vs = [.int a, .int b] ∧ b ≠ 0 ∧ Bd 8000 b ∧ ∀ p, H p = none → Q (.ref p) (upd H p (.tup [.int (lowA a b), .int (lowB a b)]))
/-- promise: a / b, or Unfit -/
def spLowest (C : Addr) : Sp := fun vs H Q E => ∃ a b : Int, vs = [.int a, .int b] ∧ Bd 8000 b ∧ (b = 0 → E (.ref C) none H) ∧ (b ≠ 0 → ∀ p, H p = none → Q (.ref p) (upd H p (.tup [.int (lowA a b), .int (lowB a b)])))
/-- a pair of ints at a tuple -/
def FrV (K : PySem.W.Frag) (H : Hp) (v : V) (a b : Int) : Prop := ∃ p, v = .ref p ∧ SqT K H p [.int a, .int b]
theorem FrV.up {K : PySem.W.Frag} {H H' : Hp} {v : V} {a b : Int} (e : Same H H') (h : FrV K H v a b) : FrV K H' v a b := by
  obtain ⟨p, rfl, hs⟩ := h
  exact ⟨p, rfl, seqT_same e hs⟩
theorem FrV.dp {K : PySem.W.Frag} {H : Hp} {v : V} {a b : Int} (h : FrV K H v a b) : Dp K H v (.tuple [.int a, .int b]) := by
  obtain ⟨p, rfl, hs⟩ := h
  exact .tup hs (.cons (.int _) (.cons (.int _) .nil))
/-! ### what repr asks of data -/
mutual
def wt : PyData → Nat
  | .none => 4
  | .bool _ => 5
  | .int _ => 1921
  | .str x => (reprText x).length
  | .list xs => wtAll xs + 3
  | .tuple xs => wtAll xs + 3
  | .dict _ => 2
def wtAll : List PyData → Nat
  | [] => 0
  | x :: xs => wt x + 2 + wtAll xs
end
mutual
theorem shown_wt : ∀ d : PyData, d.showable = true → d.hasDict = false → d.shown.length ≤ wt d
  | .none, _, _ => by simp only [PyData.shown, wt]; decide
  | .bool b, _, _ => by simp only [PyData.shown, wt]; cases b <;> decide
  | .int i, h, _ => by
    simp only [PyData.shown, wt]
    exact PyProof.Rows.int_text_len_1921 (by simpa [PyData.showable] using h)
  | .str x, _, _ => by simp only [PyData.shown, wt]; exact Nat.le_refl _
  | .list xs, h, h' => by
    have z := shownAll_wt xs (by simpa [PyData.showable] using h) (by simpa [PyData.hasDict] using h')
    have y := listText_len_le (PyData.shownAll xs)
    simp only [PyData.shown, wt]
    omega
  | .tuple xs, h, h' => by
    have z := shownAll_wt xs (by simpa [PyData.showable] using h) (by simpa [PyData.hasDict] using h')
    have y := tupleText_len_le (PyData.shownAll xs)
    simp only [PyData.shown, wt]
    omega
  | .dict _, _, h' => by simp [PyData.hasDict] at h'
theorem shownAll_wt : ∀ xs : List PyData, PyData.showableAll xs = true → PyData.hasDictAll xs = false → ((PyData.shownAll xs).map (·.length)).sum + 2 * (PyData.shownAll xs).length ≤ wtAll xs
  | [], _, _ => by simp [PyData.shownAll, wtAll]
  | x :: xs, h, h' => by
    have e : x.showable = true ∧ PyData.showableAll xs = true := by simpa [PyData.showableAll] using h
    have e' : x.hasDict = false ∧ PyData.hasDictAll xs = false := by simpa [PyData.hasDictAll] using h'
    have z1 := shown_wt x e.1 e'.1
    have z2 := shownAll_wt xs e.2 e'.2
    simp only [PyData.shownAll, wtAll, List.map_cons, List.sum_cons, List.length_cons]
    omega
end
/-- data that repr can write -/
structure Fit (d : PyData) : Prop where
  sh : d.showable = true
  wt : wt d ≤ 16000000
  dp : d.depth < 60
mutual
/-- the same, integers by their size -/
def wtB : PyData → Nat
  | .none => 4
  | .bool _ => 5
  | .int i => i.natAbs.log2 + 2
  | .str x => (reprText x).length
  | .list xs => wtBA xs + 3
  | .tuple xs => wtBA xs + 3
  | .dict _ => 2
def wtBA : List PyData → Nat
  | [] => 0
  | x :: xs => wtB x + 2 + wtBA xs
end
mutual
theorem shown_wtB : ∀ d : PyData, showB d = true → smD d = true → d.shown.length ≤ wtB d
  | .none, _, _ => by simp only [PyData.shown, wtB]; decide
  | .bool b, _, _ => by simp only [PyData.shown, wtB]; cases b <;> decide
  | .int i, h, _ => by
    simp only [PyData.shown, wtB]
    rw [PySem.ofString_length]
    exact int_text_length_le (k := i.natAbs.log2 + 1) (Nat.succ_pos _) (Nat.lt_succ_self _)
  | .str x, _, _ => by simp only [PyData.shown, wtB]; exact Nat.le_refl _
  | .list xs, h, h' => by
    have z := shown_wtBA xs (by simpa [showB] using h) (by simpa [smD] using h')
    have y := listText_len_le (PyData.shownAll xs)
    simp only [PyData.shown, wtB]
    omega
  | .tuple xs, h, h' => by
    have z := shown_wtBA xs (by simpa [showB] using h) (by simpa [smD] using h')
    have y := tupleText_len_le (PyData.shownAll xs)
    simp only [PyData.shown, wtB]
    omega
  | .dict kvs, _, h' => by
    cases kvs with
    | nil => simp only [PyData.shown, wtB]; decide
    | cons a r => simp [smD] at h'
theorem shown_wtBA : ∀ xs : List PyData, showBA xs = true → smDA xs = true → ((PyData.shownAll xs).map (·.length)).sum + 2 * (PyData.shownAll xs).length ≤ wtBA xs
  | [], _, _ => by simp [PyData.shownAll, wtBA]
  | x :: xs, h, h' => by
    have e : showB x = true ∧ showBA xs = true := by simpa [showBA] using h
    have e' : smD x = true ∧ smDA xs = true := by simpa [smDA] using h'
    have z1 := shown_wtB x e.1 e'.1
    have z2 := shown_wtBA xs e.2 e'.2
    simp only [PyData.shownAll, wtBA, List.map_cons, List.sum_cons, List.length_cons]
    omega
end
mutual
theorem wtB_le : ∀ d : PyData, d.showable = true → wtB d ≤ wt d
  | .none, _ => Nat.le_refl _
  | .bool _, _ => Nat.le_refl _
  | .int i, h => by
    simp only [wtB, wt]
    simp only [PyData.showable, decide_eq_true_eq] at h
    omega
  | .str _, _ => Nat.le_refl _
  | .list xs, h => by
    have z := wtBA_le xs (by simpa [PyData.showable] using h)
    simp only [wtB, wt]
    omega
  | .tuple xs, h => by
    have z := wtBA_le xs (by simpa [PyData.showable] using h)
    simp only [wtB, wt]
    omega
  | .dict _, _ => Nat.le_refl _
theorem wtBA_le : ∀ xs : List PyData, PyData.showableAll xs = true → wtBA xs ≤ wtAll xs
  | [], _ => Nat.le_refl _
  | x :: xs, h => by
    have e : x.showable = true ∧ PyData.showableAll xs = true := by simpa [PyData.showableAll] using h
    have z1 := wtB_le x e.1
    have z2 := wtBA_le xs e.2
    simp only [wtBA, wtAll]
    omega
end
/-- data that repr can write, great integers among it -/
structure FitB (d : PyData) : Prop where
  sh : showB d = true
  wt : wtB d ≤ 16000000
  dp : d.depth < 60
theorem Fit.toB {d : PyData} (f : Fit d) : FitB d := ⟨showB_of f.sh, Nat.le_trans (wtB_le d f.sh) f.wt, f.dp⟩
theorem r_reprB {K : PySem.W.Frag} {v : V} {d : PyData} {H : Hp} {Q : VK} (h : Dx K H v d) (f : FitB d) (q : Q (.str d.shown) H) : rRepr K [v] H Q := by
  refine ⟨v, d, rfl, h, f.sh, ?_, f.dp, q⟩
  have z := shown_wtB d f.sh (dx_sm d v h)
  have e := sizeLine_eq
  have := f.wt
  omega
theorem r_repr {K : PySem.W.Frag} {v : V} {d : PyData} {H : Hp} {Q : VK} (h : Dp K H v d) (f : Fit d) (q : Q (.str d.shown) H) : rRepr K [v] H Q := r_reprB (dx_of _ _ h) f.toB q
theorem sh_int {k : Nat} {x : Int} (h : Bd k x) (l : k ≤ 1920 := by decide) : (PyData.int x).showable = true := by
  simp only [PyData.showable]
  exact decide_eq_true (h.log l (by decide))
end VB

/-! VB8: promises of drawn numbers -/
namespace VB
open PySem PySem.Spec PyProof.Rows L2
/-- promise: a number of so many figures -/
def spGreat : Sp := fun vs H Q _ => ∃ (d l : Addr) (n : Int), vs = [.ref d, .int n] ∧ DeckOk H d l ∧ 1 ≤ n ∧ n ≤ 1000 ∧ ∀ r H', Adv d l H H' → 0 < r → r < 10 ^ n.toNat → Q (.int r) H'
/-- promise: some integer -/
def spSomeInt : Sp := fun vs H Q _ => ∃ (d l : Addr), vs = [.ref d] ∧ DeckOk H d l ∧ ∀ r H', Adv d l H H' → Bd 366 r → Q (.int r) H'
/-- promise: some fraction -/
def spSomeFr (K : PySem.W.Frag) : Sp := fun vs H Q _ => ∃ (d l : Addr), vs = [.ref d] ∧ DeckOk H d l ∧ ∀ v a b H', Adv d l H H' → FrV K (hid d l H') v a b → Bd 366 a → Bd 366 b → 0 < b → Q v H'
theorem ten_bd {r : Int} {n k : Nat} (h0 : 0 < r) (h : r < 10 ^ n) (e : 10 ^ n ≤ 2 ^ k) : Bd k r := by
  show r.natAbs < 2 ^ k
  have h1 : (r.natAbs : Int) < ((10 ^ n : Nat) : Int) := by
    rw [Int.natCast_pow]
    have : (r.natAbs : Int) = r := by omega
    rw [this]
    exact h
  have h2 : r.natAbs < 10 ^ n := by omega
  omega
theorem bd_small {r : Int} {k : Nat} (h : r.natAbs < 18446744073709551616) (e : 64 ≤ k) : Bd k r := (Bd.small h).mono e

/-! ### promises of the four ways to reckon -/
/-- two fractions: their values, sizes, denominators -/
def Two (K : PySem.W.Frag) (H : Hp) (v u : V) (a b c d : Int) (k : Nat) : Prop := FrV K H v a b ∧ FrV K H u c d ∧ Bd k a ∧ Bd k b ∧ Bd k c ∧ Bd k d
def spAdded (K : PySem.W.Frag) : Sp := fun vs H Q _ => ∃ (v u : V) (a b c d : Int), vs = [v, u] ∧ FrV K H v a b ∧ FrV K H u c d ∧ Bd 2000 a ∧ Bd 2000 b ∧ Bd 2000 c ∧ Bd 2000 d ∧ 0 < b ∧ 0 < d ∧
  ∀ p, H p = none → Q (.ref p) (upd H p (.tup [.int (lowA (a * d + c * b) (b * d)), .int (lowB (a * d + c * b) (b * d))]))
def spMultiplied (K : PySem.W.Frag) : Sp := fun vs H Q _ => ∃ (v u : V) (a b c d : Int), vs = [v, u] ∧ FrV K H v a b ∧ FrV K H u c d ∧ Bd 2000 a ∧ Bd 2000 b ∧ Bd 2000 c ∧ Bd 2000 d ∧ 0 < b ∧ 0 < d ∧
  ∀ p, H p = none → Q (.ref p) (upd H p (.tup [.int (lowA (a * c) (b * d)), .int (lowB (a * c) (b * d))]))
def spDivided (K : PySem.W.Frag) (C : Addr) : Sp := fun vs H Q E => ∃ (v u : V) (a b c d : Int), vs = [v, u] ∧ FrV K H v a b ∧ FrV K H u c d ∧ Bd 2000 a ∧ Bd 2000 b ∧ Bd 2000 c ∧ Bd 2000 d ∧ 0 < b ∧ 0 < d ∧
  (c = 0 → E (.ref C) none H) ∧ (c ≠ 0 → ∀ p, H p = none → Q (.ref p) (upd H p (.tup [.int (lowA (a * d) (b * c)), .int (lowB (a * d) (b * c))])))
/-- 1, 0, -1, as a / b is above, like, below c / d -/
def sideI (a b c d : Int) : Int := (if c * b < a * d then 1 else 0) - (if a * d < c * b then 1 else 0)
def spCompared (K : PySem.W.Frag) : Sp := fun vs H Q _ => ∃ (v u : V) (a b c d : Int), vs = [v, u] ∧ FrV K H v a b ∧ FrV K H u c d ∧ Bd 2000 a ∧ Bd 2000 b ∧ Bd 2000 c ∧ Bd 2000 d ∧ Q (.int (sideI a b c d)) H

/-! ### isinstance of the exception that a suite holds: its class is said in the reading -/
def rIsE2 (K : PySem.W.Frag) (D a : Addr) (cls : Value) (d : Option Addr) : List V → Hp → VK → Prop := fun xs H Q => cls = .ref D ∧ d = none ∧ rIsE K D a xs H Q
theorem call_isE2 {X : Cx} {a D : Addr} {oe : Obj} {pn : List (Addr × Obj)} {cls : Value} {d : Option Addr} (C : ExcC X.K D) (hz : Zc cls d oe) (hf : ∃ vs, oe.data = .fields vs) :
    CallR (X.suite a ((a, oe) :: pn)) (.builtin "isinstance") (rIsE2 X.K D a cls d) := by
  intro pins s σ H xs us Q I r h
  obtain ⟨rfl, rfl, h⟩ := h
  exact call_isE C hz hf pins s σ H xs us Q I r h
theorem r_isE2 {K : PySem.W.Frag} {D a C : Addr} {cls : Value} {d : Option Addr} {b : Bool} {H : Hp} {Q : VK} (h1 : cls = .ref D) (h2 : d = none) (h : PySem.W.kitOne K (.ref D) (.ref C) = some b) (q : Q (.bl b) H) : rIsE2 K D a cls d [.ref a, .ref C] H Q :=
  ⟨h1, h2, .ref C, .ref C, b, rfl, fun u z => z, h, q⟩
/-! ### what is told of a word and two operands -/
def resD (m n : Int) : PyData := if n = 0 then .list [.str "unfit", .bool true] else .list [.str "told", .tuple [.int (lowA m n), .int (lowB m n)]]
/-- the word's numerator and denominator -/
def Num (K : PySem.W.Frag) (H : Hp) (wd : Str) (v u : V) (m n : Int) : Prop :=
  (wd = "lowest" ∧ v = .int m ∧ u = .int n ∧ Bd 1000 m ∧ Bd 1000 n) ∨
  ∃ a b c d : Int, FrV K H v a b ∧ FrV K H u c d ∧ Bd 500 a ∧ Bd 500 b ∧ Bd 500 c ∧ Bd 500 d ∧ 0 < b ∧ 0 < d ∧
    ((wd = "added" ∧ m = a * d + c * b ∧ n = b * d) ∨ (wd = "multiplied" ∧ m = a * c ∧ n = b * d) ∨ (wd = "divided" ∧ m = a * d ∧ n = b * c))
def spTold (K : PySem.W.Frag) : Sp := fun vs H Q _ => ∃ (wd : Str) (v u : V) (m n : Int) (nm : Bool), vs = [.str wd, v, u, .bl nm] ∧ Num K H wd v u m n ∧ ∀ r H', Same H H' → Dp K H' r (resD m n) → Q r H'
def spDue (K : PySem.W.Frag) : Sp := fun vs H Q _ => ∃ (wd : Str) (v u : V) (m n : Int), vs = [.str wd, v, u] ∧ Num K H wd v u m n ∧ ∀ r H', Same H H' → Dp K H' r (resD m n) → Q r H'

/-! ### targets -/
section
variable {σ : L2.St} {H : Hp} {K : PySem.W.Frag} {n : Nat} {a : Addr} {xs vs : List V} {v : V} {g : TG} {t u : TGs} {RS : L2.St → Hp → Prop}
theorem r_gtup (hs : SqT K H a xs) (hl : xs.length = n) (h : t xs σ H RS) : gTup K n t (.ref a) σ H RS := ⟨a, xs, rfl, hs, hl, h⟩
theorem r_gcons (h : g v σ H fun σ' H' => u vs σ' H' RS) : gCons g u (v :: vs) σ H RS := ⟨v, vs, rfl, h⟩
theorem r_gnil (h : RS σ H) : gNil [] σ H RS := ⟨rfl, h⟩
theorem r_asg {te : TE} {D : Ends} (h : te σ H fun x H1 => g x σ H1 D.nx) : tAsg te g D σ H := h
end

/-- a drawn fraction -/
def FrOk (K : PySem.W.Frag) (H : Hp) (v : V) : Prop := ∃ a b, FrV K H v a b ∧ Bd 366 a ∧ Bd 366 b ∧ 0 < b
theorem FrOk.up {K : PySem.W.Frag} {H H' : Hp} {v : V} (e : Same H H') (h : FrOk K H v) : FrOk K H' v := by
  obtain ⟨a, b, f, r⟩ := h
  exact ⟨a, b, f.up e, r⟩
theorem fit_resD {m n : Int} (hm : Bd 1800 m) (hn : Bd 1800 n) : Fit (resD m n) := by
  unfold resD
  by_cases z : n = 0
  · rw [if_pos z]
    exact ⟨by decide, by decide +kernel, by decide⟩
  · rw [if_neg z]
    have h1 : (PyData.int (lowA m n)).showable = true := sh_int (lowA_bd hm z)
    have h2 : (PyData.int (lowB m n)).showable = true := sh_int (lowB_bd hn z)
    refine ⟨?_, ?_, ?_⟩
    · simp [PyData.showable, PyData.showableAll] at h1 h2 ⊢
      exact ⟨h1, h2⟩
    · have e : wt (.list [.str "told", .tuple [.int (lowA m n), .int (lowB m n)]]) = wt (.list [.str "told", .tuple [.int 0, .int 0]]) := rfl
      rw [e]
      decide +kernel
    · have e : PyData.depth (.list [.str "told", .tuple [.int (lowA m n), .int (lowB m n)]]) = PyData.depth (.list [.str "told", .tuple [.int 0, .int 0]]) := rfl
      rw [e]
      decide
theorem num_bd {K : PySem.W.Frag} {H : Hp} {wd : Str} {v u : V} {m n : Int} (h : Num K H wd v u m n) : Bd 1800 m ∧ Bd 1800 n := by
  rcases h with ⟨_, _, _, h1, h2⟩ | ⟨a, b, c, d, _, _, h1, h2, h3, h4, _, _, ⟨_, rfl, rfl⟩ | ⟨_, rfl, rfl⟩ | ⟨_, rfl, rfl⟩⟩
  · exact ⟨h1.mono (by decide), h2.mono (by decide)⟩
  · exact ⟨((h1.mul h4).add (h3.mul h2)).mono (by decide), (h2.mul h4).mono (by decide)⟩
  · exact ⟨(h1.mul h3).mono (by decide), (h2.mul h4).mono (by decide)⟩
  · exact ⟨(h1.mul h4).mono (by decide), (h2.mul h3).mono (by decide)⟩
theorem Num.up {K : PySem.W.Frag} {H H' : Hp} {wd : Str} {v u : V} {m n : Int} (e : Same H H') (h : Num K H wd v u m n) : Num K H' wd v u m n := by
  rcases h with h | ⟨a, b, c, d, f1, f2, r⟩
  · exact .inl h
  · exact .inr ⟨a, b, c, d, f1.up e, f2.up e, r⟩
theorem side_same (a b : Int) : sideI a b a b = 0 := by
  unfold sideI
  rw [if_neg (by omega)]
  rfl
theorem side_fit (x y z : Int) (h : x.natAbs ≤ 1) (h2 : y.natAbs ≤ 1) (h3 : z.natAbs ≤ 1) : Fit (.list [.int x, .int y, .int z]) := by
  have f : ∀ w : Int, w.natAbs ≤ 1 → (PyData.int w).showable = true := fun w hw => sh_int (k := 64) (bd_small (by omega) (by decide))
  refine ⟨?_, ?_, ?_⟩
  · have h1 := f x h
    have h2 := f y h2
    have h3 := f z h3
    simp [PyData.showable, PyData.showableAll] at h1 h2 h3 ⊢
    exact ⟨h1, h2, h3⟩
  · have e : wt (.list [.int x, .int y, .int z]) = wt (.list [.int 0, .int 0, .int 0]) := rfl
    rw [e]
    decide +kernel
  · have e : PyData.depth (.list [.int x, .int y, .int z]) = PyData.depth (.list [.int 0, .int 0, .int 0]) := rfl
    rw [e]
    decide
theorem side_le (a b c d : Int) : (sideI a b c d).natAbs ≤ 1 := by
  unfold sideI
  split <;> split <;> decide
/-- a law's promise -/
def spLaw (K : PySem.W.Frag) : Sp := fun vs H Q _ => ∃ (a : Addr) (ns : List Int), vs = [.ref a] ∧ SqL K H a (ns.map V.int) ∧ ns.length ≤ 63 ∧ ∀ H', Q (.bl true) H'
end VB

/-! VZ1: zip of any two among lists, tuples, texts: the library's level -/
namespace VZ
open PySem PySem.Spec L2
open PySem.Sem (wp)
section
variable {prog : Program} {w : World} {A : Around} {E : Value → Shared → Prop} {s : Shared}
/-- the next sign of a text's iterator -/
theorem nx_ascii {it : Addr} {x : Str} {t : Tok} {i c : Nat} {Q : Value → Shared → Prop} (si : s.heap.IsStrIter it "str_ascii_iterator" x t i) (hc : x.cps[i]? = some c)
    (k : ∀ h', h'.IsStrIter it "str_ascii_iterator" x t (i + 1) → Heap.SameBut it s.heap h' → Q (.str ⟨#[c]⟩ s.toks) { s with heap := h', toks := s.toks + 1 }) :
    wpAny (model prog w) A (Builtin.SmallTypes.nextOf (.ref it)) Q E s := by
  obtain ⟨ob, e1, e2, e3⟩ := id si
  unfold Builtin.SmallTypes.nextOf
  refine wpAny_bind (wpAny_callSpecial?_slot (name := Str.ofString "__next__") si.typeIs F.slot_str_ascii_iterator_next ?_)
  refine wpAny_call_entry F.slot_str_ascii_iterator_next si.typeIs F.entry_str_ascii_iterator_next ?_ (F.args_str_ascii_iterator_next_1 _)
  show wpAny _ _ (field (.ref it) 0 >>= _) _ _ _
  refine wpAny_bind (wpAny_field e1 e3 (x := .str x t) rfl ?_)
  show wpAny _ _ (field (.ref it) 1 >>= _) _ _ _
  refine wpAny_bind (wpAny_field e1 e3 (x := .int i 0) rfl ?_)
  simp only [Int.toNat_natCast, hc]
  refine wpAny_bind (wpAny_setField e1 e3 (by simp) (wpAny_bind (wpAny_mkStr (wpAny_pure ⟨_, rfl, wpAny_pure (k _ ?_ (Heap.SameBut.update ..))⟩) (by show 1 ≤ sizeLine; decide))))
  refine ⟨_, Heap.get?_update_self _ e1 (Obj.isFreed_of_fields (Obj.data_mapFields e3 _)), (Obj.cls_mapFields ..).trans e2, ?_⟩
  rw [Obj.data_mapFields e3]
  simp [rawInt]
theorem nx_wide {it : Addr} {x : Str} {t : Tok} {i c : Nat} {Q : Value → Shared → Prop} (si : s.heap.IsStrIter it "str_iterator" x t i) (hc : x.cps[i]? = some c)
    (k : ∀ h', h'.IsStrIter it "str_iterator" x t (i + 1) → Heap.SameBut it s.heap h' → Q (.str ⟨#[c]⟩ s.toks) { s with heap := h', toks := s.toks + 1 }) :
    wpAny (model prog w) A (Builtin.SmallTypes.nextOf (.ref it)) Q E s := by
  obtain ⟨ob, e1, e2, e3⟩ := id si
  unfold Builtin.SmallTypes.nextOf
  refine wpAny_bind (wpAny_callSpecial?_slot (name := Str.ofString "__next__") si.typeIs F.slot_str_iterator_next ?_)
  refine wpAny_call_entry F.slot_str_iterator_next si.typeIs F.entry_str_iterator_next ?_ (F.args_str_iterator_next_1 _)
  show wpAny _ _ (field (.ref it) 0 >>= _) _ _ _
  refine wpAny_bind (wpAny_field e1 e3 (x := .str x t) rfl ?_)
  show wpAny _ _ (field (.ref it) 1 >>= _) _ _ _
  refine wpAny_bind (wpAny_field e1 e3 (x := .int i 0) rfl ?_)
  simp only [Int.toNat_natCast, hc]
  refine wpAny_bind (wpAny_setField e1 e3 (by simp) (wpAny_bind (wpAny_mkStr (wpAny_pure ⟨_, rfl, wpAny_pure (k _ ?_ (Heap.SameBut.update ..))⟩) (by show 1 ≤ sizeLine; decide))))
  refine ⟨_, Heap.get?_update_self _ e1 (Obj.isFreed_of_fields (Obj.data_mapFields e3 _)), (Obj.cls_mapFields ..).trans e2, ?_⟩
  rw [Obj.data_mapFields e3]
  simp [rawInt]
/-- StopIteration, new, raised where nothing is handled -/
theorem stop_new {α : Type} {Q : α → Shared → Prop} (hh : A.handled = none)
    (k : ∀ h' e, (∀ b o, s.heap.get? b = some o → h'.get? b = some o) → (∃ o, h'.get? e = some o ∧ o.cls = .type "StopIteration") → E (.ref e) { s with heap := h' }) :
    wpAny (model prog w) A (newExc (.type "StopIteration") [] >>= fun e => (raiseNew e : Sem α)) Q E s := by
  refine wpAny_bind ?_
  simp only [newExc, newTuple]
  refine wpAny_bind (wpAny_newObj_type ?_ (by size_fits))
  refine wpAny_bind (m := firstArgMember _ _) (wpAny_of_eq (a := Value.none) (by first | rfl | (simp only [firstArgMember]; rfl)) ?_)
  refine wpAny_newObj_type ?_ (by size_fits)
  simp only [raiseNew]
  refine wpAny_bind (wpAny_handled ?_)
  rw [hh]
  refine wpAny_bind (wpAny_pure (wpAny_throw ?_))
  exact k _ _ (fun b o z => Heap.get?_push_of_some _ (Heap.get?_push_of_some _ z)) ⟨_, Heap.get?_push_size _ rfl, rfl⟩
theorem nx_ascii_end {it : Addr} {x : Str} {t : Tok} {i : Nat} {Q : Value → Shared → Prop} (hh : A.handled = none) (si : s.heap.IsStrIter it "str_ascii_iterator" x t i) (hc : x.cps[i]? = none)
    (k : ∀ h' e, Heap.ExtBut it s.heap h' → (∃ o, h'.get? e = some o ∧ o.cls = .type "StopIteration") → E (.ref e) { s with heap := h' }) :
    wpAny (model prog w) A (Builtin.SmallTypes.nextOf (.ref it)) Q E s := by
  obtain ⟨ob, e1, e2, e3⟩ := id si
  unfold Builtin.SmallTypes.nextOf
  refine wpAny_bind (wpAny_callSpecial?_slot (name := Str.ofString "__next__") si.typeIs F.slot_str_ascii_iterator_next ?_)
  refine wpAny_call_entry F.slot_str_ascii_iterator_next si.typeIs F.entry_str_ascii_iterator_next ?_ (F.args_str_ascii_iterator_next_1 _)
  show wpAny _ _ (field (.ref it) 0 >>= _) _ _ _
  refine wpAny_bind (wpAny_field e1 e3 (x := .str x t) rfl ?_)
  show wpAny _ _ (field (.ref it) 1 >>= _) _ _ _
  refine wpAny_bind (wpAny_field e1 e3 (x := .int i 0) rfl ?_)
  simp only [Int.toNat_natCast, hc]
  refine wpAny_bind (wpAny_rule (wpAny_bind (wpAny_setField e1 e3 (by simp) (wpAny_bind (wpAny_letGo ?_)))))
  refine stop_new (α := Fin) (show A.in1.handled = none from hh) fun h' e ke he => k h' e (fun b o hb z => ke b o ((Heap.SameBut.update ..).extBut b o hb z)) he
theorem nx_wide_end {it : Addr} {x : Str} {t : Tok} {i : Nat} {Q : Value → Shared → Prop} (hh : A.handled = none) (si : s.heap.IsStrIter it "str_iterator" x t i) (hc : x.cps[i]? = none)
    (k : ∀ h' e, Heap.ExtBut it s.heap h' → (∃ o, h'.get? e = some o ∧ o.cls = .type "StopIteration") → E (.ref e) { s with heap := h' }) :
    wpAny (model prog w) A (Builtin.SmallTypes.nextOf (.ref it)) Q E s := by
  obtain ⟨ob, e1, e2, e3⟩ := id si
  unfold Builtin.SmallTypes.nextOf
  refine wpAny_bind (wpAny_callSpecial?_slot (name := Str.ofString "__next__") si.typeIs F.slot_str_iterator_next ?_)
  refine wpAny_call_entry F.slot_str_iterator_next si.typeIs F.entry_str_iterator_next ?_ (F.args_str_iterator_next_1 _)
  show wpAny _ _ (field (.ref it) 0 >>= _) _ _ _
  refine wpAny_bind (wpAny_field e1 e3 (x := .str x t) rfl ?_)
  show wpAny _ _ (field (.ref it) 1 >>= _) _ _ _
  refine wpAny_bind (wpAny_field e1 e3 (x := .int i 0) rfl ?_)
  simp only [Int.toNat_natCast, hc]
  refine wpAny_bind (wpAny_rule (wpAny_bind (wpAny_setField e1 e3 (by simp) (wpAny_bind (wpAny_letGo ?_)))))
  refine stop_new (α := Fin) (show A.in1.handled = none from hh) fun h' e ke he => k h' e (fun b o hb z => ke b o ((Heap.SameBut.update ..).extBut b o hb z)) he
end
/-! ### what may be walked -/
inductive Src where
  | lst (a : Addr) | tup (a : Addr) | str (x : Str)
def Src.v : Src → V
  | .lst a => .ref a
  | .tup a => .ref a
  | .str x => .str x
/-- what it holds, in a heap -/
def Src.at (h : Heap) (xs : List V) : Src → Prop
  | .lst a => ∃ us : List Value, Vals xs us ∧ h.IsList a us.toArray
  | .tup a => ∃ us : List Value, Vals xs us ∧ h.IsTuple a us.toArray
  | .str x => xs = x.cps.toList.map fun c => V.str ⟨#[c]⟩
/-- its iterator -/
def Src.it (h : Heap) (it : Addr) (i : Nat) : Src → Prop
  | .lst a => h.IsListIter it a i
  | .tup a => h.IsTupleIter it a i
  | .str x => ∃ t, h.IsStrIter it "str_ascii_iterator" x t i ∨ h.IsStrIter it "str_iterator" x t i
/-- its own address is none of these -/
def Src.off (l : List Addr) : Src → Prop
  | .lst a => a ∉ l
  | .tup a => a ∉ l
  | .str _ => True
def SK (K : PySem.W.Frag) (H : Hp) (xs : List V) : Src → Prop
  | .lst a => SqL K H a xs
  | .tup a => SqT K H a xs
  | .str x => xs = x.cps.toList.map fun c => V.str ⟨#[c]⟩
theorem Src.at.ext {S : Src} {h h' : Heap} {xs : List V} {b : Addr} (e : Heap.ExtBut b h h') (o : S.off [b]) (z : S.at h xs) : S.at h' xs := by
  cases S with
  | lst a => obtain ⟨us, r, l⟩ := z; exact ⟨us, r, l.extBut e fun q => o (by simp [q])⟩
  | tup a => obtain ⟨us, r, l⟩ := z; exact ⟨us, r, l.extBut e fun q => o (by simp [q])⟩
  | str x => exact z
theorem Src.it.ext {S : Src} {h h' : Heap} {it i b : Nat} (e : Heap.ExtBut b h h') (o : it ≠ b) (z : S.it h it i) : S.it h' it i := by
  cases S with
  | lst a => exact Heap.IsListIter.extBut z e o
  | tup a => exact Heap.IsTupleIter.extBut z e o
  | str x =>
    obtain ⟨t, ⟨ob, e1, e2⟩ | ⟨ob, e1, e2⟩⟩ := z
    · exact ⟨t, .inl ⟨ob, e _ _ o e1, e2⟩⟩
    · exact ⟨t, .inr ⟨ob, e _ _ o e1, e2⟩⟩
theorem Src.it.obj {S : Src} {h : Heap} {it i : Nat} (z : S.it h it i) : ∃ ob, h.get? it = some ob ∧ ∀ v, ob.data ≠ .cell v := by
  cases S with
  | lst a => obtain ⟨ob, e1, _, e2⟩ := z; exact ⟨ob, e1, fun v q => by rw [e2] at q; cases q⟩
  | tup a => obtain ⟨ob, e1, _, e2⟩ := z; exact ⟨ob, e1, fun v q => by rw [e2] at q; cases q⟩
  | str x =>
    obtain ⟨t, ⟨ob, e1, _, e2⟩ | ⟨ob, e1, _, e2⟩⟩ := z
    · exact ⟨ob, e1, fun v q => by rw [e2] at q; cases q⟩
    · exact ⟨ob, e1, fun v q => by rw [e2] at q; cases q⟩
theorem Src.it.keep {S : Src} {h h' : Heap} {it i : Nat} (k : ∀ o, h.get? it = some o → h'.get? it = some o) (z : S.it h it i) : S.it h' it i := by
  cases S with
  | lst a => exact Heap.IsListIter.at z k
  | tup a => exact Heap.IsTupleIter.at z k
  | str x =>
    obtain ⟨t, ⟨ob, e1, e2⟩ | ⟨ob, e1, e2⟩⟩ := z
    · exact ⟨t, .inl ⟨ob, k _ e1, e2⟩⟩
    · exact ⟨t, .inr ⟨ob, k _ e1, e2⟩⟩
section
variable {prog : Program} {w : World} {A : Around} {E : Value → Shared → Prop} {s : Shared}
theorem src_item {S : Src} {xs : List V} {x : V} {it i : Nat} {Q : Value → Shared → Prop} (ha : S.at s.heap xs) (hi : S.it s.heap it i) (hx : xs[i]? = some x)
    (k : ∀ u h' tk, RelV x u → S.it h' it (i + 1) → Heap.SameBut it s.heap h' → Q u { s with heap := h', toks := tk }) : wpAny (model prog w) A (Builtin.SmallTypes.nextOf (.ref it)) Q E s := by
  cases S with
  | lst a =>
    obtain ⟨us, r, l⟩ := ha
    obtain ⟨u, hu, ru⟩ := r.get hx
    exact wpAny_nextOf_list_item hi l (x := u) (by simpa using hu) fun h' z sb => k u h' s.toks ru z sb
  | tup a =>
    obtain ⟨us, r, l⟩ := ha
    obtain ⟨u, hu, ru⟩ := r.get hx
    exact RZ.nextOf_tuple_item hi l (x := u) (by simpa using hu) fun h' z sb => k u h' s.toks ru z sb
  | str z =>
    have e : xs = z.cps.toList.map fun c => V.str ⟨#[c]⟩ := ha
    subst e
    rw [List.getElem?_map] at hx
    cases hc : z.cps.toList[i]? with
    | none => rw [hc] at hx; cases hx
    | some c =>
      rw [hc] at hx
      cases hx
      obtain ⟨t, q | q⟩ := hi
      · exact nx_ascii q (by simpa using hc) fun h' y sb => k _ h' _ ⟨_, rfl⟩ ⟨t, .inl y⟩ sb
      · exact nx_wide q (by simpa using hc) fun h' y sb => k _ h' _ ⟨_, rfl⟩ ⟨t, .inr y⟩ sb
theorem src_end {S : Src} {xs : List V} {it i : Nat} {Q : Value → Shared → Prop} (hh : A.handled = none) (ha : S.at s.heap xs) (hi : S.it s.heap it i) (hx : xs[i]? = none)
    (k : ∀ h' e, Heap.ExtBut it s.heap h' → (∃ o, h'.get? e = some o ∧ o.cls = .type "StopIteration") → E (.ref e) { s with heap := h' }) : wpAny (model prog w) A (Builtin.SmallTypes.nextOf (.ref it)) Q E s := by
  cases S with
  | lst a =>
    obtain ⟨us, r, l⟩ := ha
    exact wpAny_nextOf_list_end hh hi l (by have := Vals.none_of r hx; simpa using this) k
  | tup a =>
    obtain ⟨us, r, l⟩ := ha
    exact RZ.nextOf_tuple_end hh hi l (by have := Vals.none_of r hx; simpa using this) k
  | str z =>
    have e : xs = z.cps.toList.map fun c => V.str ⟨#[c]⟩ := ha
    subst e
    have hc : z.cps[i]? = none := by
      rw [List.getElem?_map] at hx
      cases hc : z.cps.toList[i]? with
      | none => simpa using hc
      | some c => rw [hc] at hx; cases hx
    obtain ⟨t, q | q⟩ := hi
    · exact nx_ascii_end hh q hc k
    · exact nx_wide_end hh q hc k
/-- the iterator of a new walk -/
theorem src_iter {S : Src} {xs : List V} {u : Value} {Q : Value → Shared → Prop} (ha : S.at s.heap xs) (ru : RelV S.v u)
    (k : ∀ o, S.it (s.heap.push o) s.heap.objs.size 0 → Q (.ref s.heap.objs.size) { s with heap := s.heap.push o }) : wpAny (model prog w) A (pyIter u) Q E s := by
  cases S with
  | lst a =>
    obtain ⟨us, r, l⟩ := ha
    obtain rfl : u = .ref a := ru
    exact wpAny_pyIter_list l (k _ ⟨_, Heap.get?_push_size _ rfl, rfl, rfl⟩)
  | tup a =>
    obtain ⟨us, r, l⟩ := ha
    obtain rfl : u = .ref a := ru
    exact wpAny_pyIter_tuple l (k _ ⟨_, Heap.get?_push_size _ rfl, rfl, rfl⟩)
  | str z =>
    obtain ⟨t, rfl⟩ : ∃ t, u = .str z t := ru
    cases hz : z.cps.all (· < 128)
    · exact wpAny_pyIter_wide hz (k _ ⟨t, .inr ⟨_, Heap.get?_push_size _ rfl, rfl, rfl⟩⟩)
    · exact wpAny_pyIter_ascii hz (k _ ⟨t, .inl ⟨_, Heap.get?_push_size _ rfl, rfl, rfl⟩⟩)
end
end VZ

/-! VZ2: the zip object over two sources -/
namespace VZ
open PySem PySem.Spec L2
open PySem.Sem (wp)
/-- the zip's own addresses, and its sources' -/
structure Far (z TI TO i1 i2 : Addr) (S T : Src) : Prop where
  a1 : TI ≠ z
  a2 : TO ≠ z
  a3 : i1 ≠ z
  a4 : i2 ≠ z
  a5 : TI ≠ TO
  a6 : TI ≠ i1
  a7 : TI ≠ i2
  a8 : TO ≠ i1
  a9 : TO ≠ i2
  a10 : i1 ≠ i2
  s : S.off [z, TO, i1, i2]
  t : T.off [z, TO, i1, i2]
theorem Src.off.one {S : Src} {l : List Addr} {b : Addr} (h : S.off l) (hb : b ∈ l) : S.off [b] := by
  cases S with
  | lst a => exact fun q => h (by rw [List.mem_singleton.mp q]; exact hb)
  | tup a => exact fun q => h (by rw [List.mem_singleton.mp q]; exact hb)
  | str x => trivial
section
variable {prog : Program} {w : World} {A : Around} {E : Value → Shared → Prop} {s : Shared}
/-- what a turn leaves -/
structure Turned (n : Nat) (z TI TO i1 i2 : Addr) (S T : Src) (k : Nat) (u v : Value) (h h' : Heap) : Prop where
  zp : IsZip h' z TI TO (rawInt n)
  to : IsPair h' TO u v
  it1 : S.it h' i1 (k + 1)
  it2 : T.it h' i2 (k + 1)
  new : IsPair h' n u v
  size : h'.objs.size = n + 1
  keep : ∀ c o, c ≠ z → c ≠ TO → c ≠ i1 → c ≠ i2 → h.get? c = some o → h'.get? c = some o
theorem zip_turn {z TI TO i1 i2 : Addr} {S T : Src} {xs ys : List V} {k : Nat} {x y : V} {p q : Value} {Q : Value → Shared → Prop} (D : Far z TI TO i1 i2 S T)
    (zp : IsZip s.heap z TI TO .none) (ti : IsPair s.heap TI (.ref i1) (.ref i2)) (to : IsPair s.heap TO p q)
    (g1 : S.it s.heap i1 k) (g2 : T.it s.heap i2 k) (b1 : S.at s.heap xs) (b2 : T.at s.heap ys) (hx : xs[k]? = some x) (hy : ys[k]? = some y)
    (fin : ∀ u v h' tk, RelV x u → RelV y v → Turned s.heap.objs.size z TI TO i1 i2 S T k u v s.heap h' → Q (.ref s.heap.objs.size) { s with heap := h', toks := tk }) :
    wpAny (model prog w) A (Builtin.«zip.__next__» ⟨[.ref z], []⟩) (fun f s' => ∃ v, f = .done (.ret v) ∧ Q v s') E s := by
  have oz := D.s.one (b := z) (by simp)
  have pz := D.t.one (b := z) (by simp)
  have p1 := D.t.one (b := i1) (by simp)
  have pt := D.t.one (b := TO) (by simp)
  show wpAny _ _ (field (.ref z) 2 >>= _) _ _ _
  refine wpAny_bind (wpAny_field zp rfl (x := .bool false) rfl ?_)
  show wpAny _ _ (field (.ref z) 3 >>= _) _ _ _
  refine wpAny_bind (wpAny_field zp rfl (x := .ref TI) rfl (wpAny_bind (wpAny_seqItems ti rfl ?_)))
  show wpAny _ _ (Builtin.SmallTypes.ownedTupleIsFree (.ref z) >>= _) _ _ _
  refine wpAny_bind ?_
  unfold Builtin.SmallTypes.ownedTupleIsFree
  refine wpAny_bind (wpAny_field zp rfl (x := .none) rfl (wpAny_pure ?_))
  simp only [if_true]
  refine wpAny_bind (wpAny_rule (wpAny_bind (wpAny_field zp rfl (x := .ref TO) rfl (wpAny_bind (wpAny_setField_rec zp (by simp) fun h1 zp1 c1 => ?_)))))
  have zp1 : IsZip h1 z TI TO .ellipsis := zp1
  refine wpAny_bind ?_
  simp only [List.zipIdx_cons, List.zipIdx_nil, List.forIn_cons, List.forIn_nil]
  refine wpAny_bind (wpAny_bind (wpAny_onRaise ?_))
  show wpAny _ _ (Builtin.SmallTypes.nextOf (.ref i1) >>= _) _ _ _
  refine wpAny_bind (src_item (S := S) (b1.ext c1.extBut oz) (g1.ext c1.extBut D.a3) hx fun u h2 t2 ru gg1 c2 => wpAny_pure ?_)
  have to2 : IsPair h2 TO p q := c2.extBut _ _ D.a8 (c1.extBut _ _ D.a2 to)
  refine wpAny_bind (wpAny_seqItems to2 rfl (wpAny_bind (wpAny_updateSeq_pair to2 fun h3 to3 c3 => ?_)))
  have to3 : IsPair h3 TO u q := to3
  refine wpAny_bind (wpAny_letGo (wpAny_pure ?_))
  refine wpAny_bind (wpAny_bind (wpAny_onRaise ?_))
  show wpAny _ _ (Builtin.SmallTypes.nextOf (.ref i2) >>= _) _ _ _
  refine wpAny_bind (src_item (S := T) (((b2.ext c1.extBut pz).ext c2.extBut p1).ext c3.extBut pt)
    (((g2.ext c1.extBut D.a4).ext c2.extBut D.a10.symm).ext c3.extBut D.a9.symm) hy fun v h4 t4 rv gg2 c4 => wpAny_pure ?_)
  have to4 : IsPair h4 TO u q := c4.extBut _ _ D.a9 to3
  refine wpAny_bind (wpAny_seqItems to4 rfl (wpAny_bind (wpAny_updateSeq_pair to4 fun h5 to5 c5 => ?_)))
  have to5 : IsPair h5 TO u v := to5
  refine wpAny_bind (wpAny_letGo (wpAny_pure (wpAny_pure ?_)))
  refine wpAny_bind (wpAny_seqItems to5 rfl (wpAny_bind (wpAny_newTuple ?_)))
  have sz : h5.objs.size = s.heap.objs.size := by rw [c5.1, c4.1, c3.1, c2.1, c1.1]
  have zp5 : IsZip h5 z TI TO .ellipsis := c5.extBut _ _ D.a2.symm (c4.extBut _ _ D.a4.symm (c3.extBut _ _ D.a2.symm (c2.extBut _ _ D.a3.symm zp1)))
  have up5 : ∀ c o, c ≠ z → c ≠ TO → c ≠ i1 → c ≠ i2 → s.heap.get? c = some o → h5.get? c = some o := fun c o d1 d2 d3 d4 e =>
    c5.extBut _ _ d2 (c4.extBut _ _ d4 (c3.extBut _ _ d2 (c2.extBut _ _ d3 (c1.extBut _ _ d1 e))))
  have k1 : S.it h5 i1 (k + 1) := ((gg1.ext c3.extBut D.a8.symm).ext c4.extBut D.a10).ext c5.extBut D.a8.symm
  have k2 : T.it h5 i2 (k + 1) := gg2.ext c5.extBut D.a9.symm
  show wpAny _ _ (Builtin.SmallTypes.ownedTupleHandOut (.ref z) (.ref h5.objs.size) >>= _) _ _ _
  refine wpAny_bind ?_
  unfold Builtin.SmallTypes.ownedTupleHandOut
  have zp6 : IsZip (h5.push { cls := .type "tuple", data := .seq #[u, v] }) z TI TO .ellipsis := Heap.get?_push_of_some _ zp5
  refine wpAny_bind (wpAny_setField_rec zp6 (by simp) fun h7 zp7 c7 => ?_)
  have zp7 : IsZip h7 z TI TO (rawInt h5.objs.size) := zp7
  refine wpAny_setField_rec zp7 (by simp) fun h8 zp8 c8 => ?_
  have zp8 : IsZip h8 z TI TO (rawInt h5.objs.size) := zp8
  have nz : h5.objs.size ≠ z := Nat.ne_of_gt (Heap.lt_size zp5)
  have up8 : ∀ c o, c ≠ z → h5.get? c = some o → h8.get? c = some o := fun c o d e => c8.extBut _ _ d (c7.extBut _ _ d (Heap.get?_push_of_some _ e))
  have nw : IsPair h8 h5.objs.size u v := c8.extBut _ _ nz (c7.extBut _ _ nz (Heap.get?_push_size _ rfl))
  have sz8 : h8.objs.size = h5.objs.size + 1 := by rw [c8.1, c7.1, Heap.size_push]
  rw [sz] at zp8 nw sz8
  refine wpAny_pure ⟨_, rfl, ?_⟩
  show Q (.ref h5.objs.size) _
  rw [sz]
  exact fin u v h8 _ ru rv ⟨zp8, up8 _ _ D.a2 to5, k1.keep fun o e => up8 _ o D.a3 e, k2.keep fun o e => up8 _ o D.a4 e, nw, sz8, fun c o d1 d2 d3 d4 e => up8 c o d1 (up5 c o d1 d2 d3 d4 e)⟩
theorem zip_over {z TI TO i1 i2 : Addr} {S T : Src} {xs ys : List V} {k : Nat} {p q : Value} {Q : Fin → Shared → Prop} (hh : A.handled = none) (D : Far z TI TO i1 i2 S T)
    (zp : IsZip s.heap z TI TO .none) (ti : IsPair s.heap TI (.ref i1) (.ref i2)) (to : IsPair s.heap TO p q)
    (g1 : S.it s.heap i1 k) (g2 : T.it s.heap i2 k) (b1 : S.at s.heap xs) (b2 : T.at s.heap ys) (over : xs[k]? = none ∨ ys[k]? = none)
    (fin : ∀ h' e tk, (∀ c o, c ≠ z → c ≠ TO → c ≠ i1 → c ≠ i2 → s.heap.get? c = some o → h'.get? c = some o) → (∃ o, h'.get? e = some o ∧ o.cls = .type "StopIteration") → E (.ref e) { s with heap := h', toks := tk }) :
    wpAny (model prog w) A (Builtin.«zip.__next__» ⟨[.ref z], []⟩) Q E s := by
  have oz := D.s.one (b := z) (by simp)
  have pz := D.t.one (b := z) (by simp)
  have p1 := D.t.one (b := i1) (by simp)
  have pt := D.t.one (b := TO) (by simp)
  show wpAny _ _ (field (.ref z) 2 >>= _) _ _ _
  refine wpAny_bind (wpAny_field zp rfl (x := .bool false) rfl ?_)
  show wpAny _ _ (field (.ref z) 3 >>= _) _ _ _
  refine wpAny_bind (wpAny_field zp rfl (x := .ref TI) rfl (wpAny_bind (wpAny_seqItems ti rfl ?_)))
  show wpAny _ _ (Builtin.SmallTypes.ownedTupleIsFree (.ref z) >>= _) _ _ _
  refine wpAny_bind ?_
  unfold Builtin.SmallTypes.ownedTupleIsFree
  refine wpAny_bind (wpAny_field zp rfl (x := .none) rfl (wpAny_pure ?_))
  simp only [if_true]
  refine wpAny_bind (wpAny_rule (wpAny_bind (wpAny_field zp rfl (x := .ref TO) rfl (wpAny_bind (wpAny_setField_rec zp (by simp) fun h1 zp1 c1 => ?_)))))
  have zp1 : IsZip h1 z TI TO .ellipsis := zp1
  refine wpAny_bind ?_
  simp only [List.zipIdx_cons, List.zipIdx_nil, List.forIn_cons, List.forIn_nil]
  refine wpAny_bind (wpAny_bind (wpAny_onRaise ?_))
  show wpAny _ _ (Builtin.SmallTypes.nextOf (.ref i1) >>= _) _ _ _
  cases hx : xs[k]? with
  | none =>
    refine wpAny_bind (src_end (S := S) hh (b1.ext c1.extBut oz) (g1.ext c1.extBut D.a3) hx fun h2 e c2 he => ?_)
    obtain ⟨oe, he1, he2⟩ := he
    have zp2 : IsZip h2 z TI TO .ellipsis := c2 _ _ D.a3.symm zp1
    have ez : e ≠ z := fun q => by
      subst q
      rw [zp2] at he1
      cases he1
      exact nomatch (show Value.type "zip" = Value.type "StopIteration" from he2)
    refine wpAny_setField_rec zp2 (by simp) fun h3 _ c3 => fin h3 e s.toks (fun c o d1 d2 d3 d4 e => c3.extBut _ _ d1 (c2 _ _ d3 (c1.extBut _ _ d1 e))) ⟨oe, c3.extBut _ _ ez he1, he2⟩
  | some x =>
    have hy : ys[k]? = none := by
      rcases over with h | h
      · rw [hx] at h; cases h
      · exact h
    refine wpAny_bind (src_item (S := S) (b1.ext c1.extBut oz) (g1.ext c1.extBut D.a3) hx fun u h2 t2 ru gg1 c2 => wpAny_pure ?_)
    have to2 : IsPair h2 TO p q := c2.extBut _ _ D.a8 (c1.extBut _ _ D.a2 to)
    refine wpAny_bind (wpAny_seqItems to2 rfl (wpAny_bind (wpAny_updateSeq_pair to2 fun h3 to3 c3 => ?_)))
    refine wpAny_bind (wpAny_letGo (wpAny_pure ?_))
    refine wpAny_bind (wpAny_bind (wpAny_onRaise ?_))
    show wpAny _ _ (Builtin.SmallTypes.nextOf (.ref i2) >>= _) _ _ _
    refine wpAny_bind (src_end (S := T) hh (((b2.ext c1.extBut pz).ext c2.extBut p1).ext c3.extBut pt)
      (((g2.ext c1.extBut D.a4).ext c2.extBut D.a10.symm).ext c3.extBut D.a9.symm) hy fun h4 e c4 he => ?_)
    obtain ⟨oe, he1, he2⟩ := he
    have zp4 : IsZip h4 z TI TO .ellipsis := c4 _ _ D.a4.symm (c3.extBut _ _ D.a2.symm (c2.extBut _ _ D.a3.symm zp1))
    have ez : e ≠ z := fun q => by
      subst q
      rw [zp4] at he1
      cases he1
      exact nomatch (show Value.type "zip" = Value.type "StopIteration" from he2)
    refine wpAny_setField_rec zp4 (by simp) fun h5 _ c5 => fin h5 e t2 (fun c o d1 d2 d3 d4 e => c5.extBut _ _ d1 (c4 _ _ d4 (c3.extBut _ _ d2 (c2.extBut _ _ d3 (c1.extBut _ _ d1 e))))) ⟨oe, c5.extBut _ _ ez he1, he2⟩
theorem next_turn {z TI TO i1 i2 : Addr} {S T : Src} {xs ys : List V} {k : Nat} {x y : V} {p q : Value} {Q : Option Value → Shared → Prop} (D : Far z TI TO i1 i2 S T)
    (zp : IsZip s.heap z TI TO .none) (ti : IsPair s.heap TI (.ref i1) (.ref i2)) (to : IsPair s.heap TO p q)
    (g1 : S.it s.heap i1 k) (g2 : T.it s.heap i2 k) (b1 : S.at s.heap xs) (b2 : T.at s.heap ys) (hx : xs[k]? = some x) (hy : ys[k]? = some y)
    (fin : ∀ u v h' tk, RelV x u → RelV y v → Turned s.heap.objs.size z TI TO i1 i2 S T k u v s.heap h' → Q (some (.ref s.heap.objs.size)) { s with heap := h', toks := tk }) :
    wpAny (model prog w) A (pyNext (.ref z)) Q E s := by
  have ty : s.TypeIs (.ref z) "zip" := ⟨_, zp, rfl⟩
  unfold pyNext
  refine wpAny_bind (wpAny_attempt (wpAny_callSpecial?_slot (name := Str.ofString "__next__") ty F.slot_zip_next ?_))
  exact wpAny_call_entry F.slot_zip_next ty F.entry_zip_next (zip_turn D zp ti to g1 g2 b1 b2 hx hy fun u v h' tk a b c => wpAny_pure (fin u v h' tk a b c)) (F.args_zip_next_1 _)
theorem next_over {z TI TO i1 i2 : Addr} {S T : Src} {xs ys : List V} {k : Nat} {p q : Value} {Q : Option Value → Shared → Prop} (hh : A.handled = none) (D : Far z TI TO i1 i2 S T)
    (zp : IsZip s.heap z TI TO .none) (ti : IsPair s.heap TI (.ref i1) (.ref i2)) (to : IsPair s.heap TO p q)
    (g1 : S.it s.heap i1 k) (g2 : T.it s.heap i2 k) (b1 : S.at s.heap xs) (b2 : T.at s.heap ys) (over : xs[k]? = none ∨ ys[k]? = none)
    (fin : ∀ h' tk, (∀ c o, c ≠ z → c ≠ TO → c ≠ i1 → c ≠ i2 → s.heap.get? c = some o → h'.get? c = some o) → Q none { s with heap := h', toks := tk }) :
    wpAny (model prog w) A (pyNext (.ref z)) Q E s := by
  have ty : s.TypeIs (.ref z) "zip" := ⟨_, zp, rfl⟩
  unfold pyNext
  refine wpAny_bind (wpAny_attempt (wpAny_callSpecial?_slot (name := Str.ofString "__next__") ty F.slot_zip_next ?_))
  refine wpAny_call_entry F.slot_zip_next ty F.entry_zip_next (zip_over hh D zp ti to g1 g2 b1 b2 over fun h' e tk kk he => ?_) (F.args_zip_next_1 _)
  obtain ⟨o, e1, e2⟩ := he
  exact wpAny_bind (wpAny_isInstance (T := "StopIteration") (b := true) ⟨o, e1, e2⟩ isSubtype_stop (wpAny_pure (fin h' tk kk)))
end
/-- zip(a, b), as it is made -/
theorem zip_made (S T : Src) (xs ys : List V) (u v : Value) (ru : RelV S.v u) (rv : RelV T.v v) :
    Meets (Builtin.«zip.__new__» ⟨[.type "zip", u, v], []⟩) (fun _ R s => S.at s.heap xs ∧ (∀ o, T.at (s.heap.push o) ys) ∧
      ∀ h', IsZip h' (s.heap.objs.size + 4) (s.heap.objs.size + 2) (s.heap.objs.size + 3) .none → IsPair h' (s.heap.objs.size + 2) (.ref s.heap.objs.size) (.ref (s.heap.objs.size + 1)) →
        IsPair h' (s.heap.objs.size + 3) .none .none → S.it h' s.heap.objs.size 0 → T.it h' (s.heap.objs.size + 1) 0 → (∀ c o, s.heap.get? c = some o → h'.get? c = some o) →
        R (.ok (.ret (.ref (s.heap.objs.size + 4)))) { s with heap := h' }) :=
  .of_wp fun prog w A R s h => by
    obtain ⟨hp, g, d, tk, os⟩ := s
    obtain ⟨b1, b2, fin⟩ := h
    have hsub := sub_zip
    have key1 : ∀ {B : Around} {E : Value → Shared → Prop} {Q : Value → Shared → Prop}, (∀ o, S.it (hp.push o) hp.objs.size 0 → Q (.ref hp.objs.size) ⟨hp.push o, g, d, tk, os⟩) → wpAny (model prog w) B (pyIter u) Q E ⟨hp, g, d, tk, os⟩ :=
      fun k => src_iter (s := ⟨hp, g, d, tk, os⟩) b1 ru k
    have key2 : ∀ (o : Obj) {B : Around} {E : Value → Shared → Prop} {Q : Value → Shared → Prop}, (∀ o', T.it ((hp.push o).push o') (hp.push o).objs.size 0 → Q (.ref (hp.push o).objs.size) ⟨(hp.push o).push o', g, d, tk, os⟩) → wpAny (model prog w) B (pyIter v) Q E ⟨hp.push o, g, d, tk, os⟩ :=
      fun o _ _ _ k => src_iter (s := ⟨hp.push o, g, d, tk, os⟩) (b2 o) rv k
    repeat (any_goals (first | with_reducible refine key1 (fun o1 g1 => ?_) | with_reducible refine key2 _ (fun o2 g2 => ?_) | assumption | wp_step))
    have pg : ∀ (h : Heap) (ob : Obj), ob.isFreed = false → (h.push ob).get? h.objs.size = some ob := fun h ob hf => Heap.get?_push_size _ hf
    have s1 : (hp.push o1).objs.size = hp.objs.size + 1 := Heap.size_push ..
    have s2 : ((hp.push o1).push o2).objs.size = hp.objs.size + 2 := by rw [Heap.size_push, s1]
    generalize e3 : ((hp.push o1).push o2).push { cls := .type "tuple", data := .seq ((#[].push (Value.ref hp.objs.size)).push (Value.ref (hp.push o1).objs.size)).toList.toArray } = h3
    have s3 : h3.objs.size = hp.objs.size + 3 := by rw [← e3, Heap.size_push, s2]
    generalize e4 : h3.push { cls := .type "tuple", data := .seq (List.map (fun x => Value.none) ((#[].push (Value.ref hp.objs.size)).push (Value.ref (hp.push o1).objs.size)).toList).toArray } = h4
    have s4 : h4.objs.size = hp.objs.size + 4 := by rw [← e4, Heap.size_push, s3]
    have gi2 : ∀ c o, ((hp.push o1).push o2).get? c = some o → h3.get? c = some o := fun c o z => by rw [← e3]; exact Heap.get?_push_of_some _ z
    have gi3 : ∀ c o, h3.get? c = some o → h4.get? c = some o := fun c o z => by rw [← e4]; exact Heap.get?_push_of_some _ z
    have g3 : IsPair h3 (hp.objs.size + 2) (.ref hp.objs.size) (.ref (hp.objs.size + 1)) := by
      have q := pg ((hp.push o1).push o2) { cls := .type "tuple", data := .seq ((#[].push (Value.ref hp.objs.size)).push (Value.ref (hp.push o1).objs.size)).toList.toArray } rfl
      rw [e3, s2, s1] at q
      exact q
    have g4 : IsPair h4 (hp.objs.size + 3) .none .none := by
      have q := pg h3 { cls := .type "tuple", data := .seq (List.map (fun x => Value.none) ((#[].push (Value.ref hp.objs.size)).push (Value.ref (hp.push o1).objs.size)).toList).toArray } rfl
      rw [e4, s3] at q
      exact q
    refine ⟨_, rfl, ?_⟩
    rw [s4]
    have up : ∀ (ob : Obj) c o, h4.get? c = some o → (h4.push ob).get? c = some o := fun _ c o z => Heap.get?_push_of_some _ z
    refine fin _ ?_ (up _ _ _ (gi3 _ _ g3)) (up _ _ _ g4) ?_ ?_ fun c o z => up _ _ _ (gi3 _ _ (gi2 _ _ (Heap.get?_push_of_some _ (Heap.get?_push_of_some _ z))))
    · have q2 := pg h4 { cls := .type "zip", data := .fields #[.none, .bool false, .bool false, .ref ((hp.push o1).push o2).objs.size, .ref h3.objs.size] } rfl
      rw [s4, s2, s3] at q2
      show Heap.get? _ (hp.objs.size + 4) = _
      rw [s2, s3]
      exact q2
    · exact g1.keep fun o z => up _ _ _ (gi3 _ _ (gi2 _ _ (Heap.get?_push_of_some _ z)))
    · have q : T.it ((hp.push o1).push o2) (hp.objs.size + 1) 0 := by rw [← s1]; exact g2
      exact q.keep fun o z => up _ _ _ (gi3 _ _ (gi2 _ _ z))
end VZ

/-! VZ3: for x, y in zip(a, b): the rule -/
namespace VZ
open PySem PySem.Spec PyProof.Rows L2 VB
/-- the walk of the pairs of xs and ys, which stand still -/
def ItQ (K : PySem.W.Frag) (S T : Src) (xs ys : List V) : It :=
  ⟨fun i H => SK K H xs S ∧ SK K H ys T ∧ i < xs.length ∧ i < ys.length,
    fun i H v H' => ∃ p x y, v = .ref p ∧ H p = none ∧ H' = upd H p (.tup [x, y]) ∧ xs[i]? = some x ∧ ys[i]? = some y,
    fun i H => SK K H xs S ∧ SK K H ys T ∧ (xs.length ≤ i ∨ ys.length ≤ i)⟩
theorem sk_at {X : Cx} {pins : List (Addr × Obj)} {σ : L2.St} {H : Hp} {s : Shared} {S : Src} {xs : List V} (I : Inv X pins σ H s) (h : SK X.K H xs S) : S.at s.heap xs := by
  cases S with
  | lst a => obtain ⟨us, r, p, _⟩ := I.list h; exact ⟨us, r, p.isList⟩
  | tup a => obtain ⟨us, r, p, _⟩ := I.tuple h; exact ⟨us, r, p⟩
  | str x => exact h
theorem sk_lt {X : Cx} {pins : List (Addr × Obj)} {σ : L2.St} {H : Hp} {s : Shared} {S : Src} {xs : List V} (I : Inv X pins σ H s) (h : SK X.K H xs S) : ∀ l : List Addr, (∀ b ∈ l, s.heap.objs.size ≤ b) → S.off l := by
  intro l hl
  cases S with
  | lst a => obtain ⟨us, r, p, _⟩ := I.list h; exact fun q => Nat.lt_irrefl _ (Nat.lt_of_lt_of_le p.lt (hl _ q))
  | tup a => obtain ⟨us, r, p, _⟩ := I.tuple h; exact fun q => Nat.lt_irrefl _ (Nat.lt_of_lt_of_le p.lt (hl _ q))
  | str x => trivial
theorem turn_q {P : Program} {w : World} {K : PySem.W.Frag} {elts : List Expr} {kk : Nat} {tpos : Pos} {z TI TO i1 i2 : Addr} {S T : Src} {xs ys : List V} (D : Far z TI TO i1 i2 S T) :
    Turn P w K (.Tuple elts kk tpos) (ItQ K S T xs ys) [z, TI, TO, i1, i2] z (fun i h => IsZip h z TI TO .none ∧ IsPair h TI (.ref i1) (.ref i2) ∧ (∃ x y, IsPair h TO x y) ∧ S.it h i1 i ∧ T.it h i2 i) where
  mem := by simp
  obj := by
    intro i h st c hc
    obtain ⟨q1, q2, ⟨x, y, q3⟩, q4, q5⟩ := st
    have e : c = z ∨ c = TI ∨ c = TO ∨ c = i1 ∨ c = i2 := by simpa using hc
    rcases e with rfl | rfl | rfl | rfl | rfl
    · exact ⟨_, q1, fun v q => nomatch q⟩
    · exact ⟨_, q2, fun v q => nomatch q⟩
    · exact ⟨_, q3, fun v q => nomatch q⟩
    · exact q4.obj
    · exact q5.obj
  keep := by
    intro i h h' st k
    obtain ⟨q1, q2, ⟨x, y, q3⟩, q4, q5⟩ := st
    exact ⟨k z (by simp) _ q1, k TI (by simp) _ q2, ⟨x, y, k TO (by simp) _ q3⟩, q4.keep fun o e => k i1 (by simp) o e, q5.keep fun o e => k i2 (by simp) o e⟩
  item := by
    intro X hP hw hK hc i pins s σ H E I hf st hg
    subst hP hw hK
    obtain ⟨q1, q2, ⟨x0, y0, q3⟩, q4, q5⟩ := st
    obtain ⟨k1, k2, l1, l2⟩ := hg
    have hx : xs[i]? = some xs[i] := List.getElem?_eq_getElem l1
    have hy : ys[i]? = some ys[i] := List.getElem?_eq_getElem l2
    have zl : z < s.heap.objs.size := Heap.lt_size q1
    refine next_turn D q1 q2 q3 q4 q5 (sk_at I k1) (sk_at I k2) hx hy fun u v h' tk ru rv t => ?_
    refine ⟨_, rfl, wpAny_letOwnedTupleGo_zip (s := { s with heap := h', toks := tk }) t.zp fun h'' z'' sb => ?_⟩
    have nw : h''.get? s.heap.objs.size = some { cls := .type "tuple", data := .seq #[u, v] } := (sb.2 _ (Nat.ne_of_gt zl)).trans t.new
    have ok : ObjOk X.prog X.w (upd H s.heap.objs.size (.tup [xs[i], ys[i]])) h'' s.heap.objs.size (.tup [xs[i], ys[i]]) :=
      ⟨by show 2 ≤ sizeLine; decide, [u, v], .cons ru (.cons rv .nil), ⟨_, nw, rfl, _, rfl⟩⟩
    have away : ∀ c o, c ∉ [z, TI, TO, i1, i2] → s.heap.get? c = some o → h''.get? c = some o := fun c o hb e =>
      (sb.2 c fun q => hb (by simp [q])).trans (t.keep c o (fun q => hb (by simp [q])) (fun q => hb (by simp [q])) (fun q => hb (by simp [q])) (fun q => hb (by simp [q])) e)
    have J : Inv X pins σ (upd H s.heap.objs.size (.tup [xs[i], ys[i]])) { s with heap := h'', toks := tk } := I.turnedNew (t' := tk) (ch := [z, TI, TO, i1, i2]) away hf (Nat.le_refl _) ok
    refine ⟨.ref s.heap.objs.size, _, J, rfl, ⟨_, _, _, rfl, I.hok.fresh (Nat.le_refl _), rfl, hx, hy⟩, ⟨z'', ?_, ⟨u, v, ?_⟩, ?_, ?_⟩, fun c hcm => ?_⟩
    · exact (sb.2 _ D.a1).trans (t.keep _ _ D.a1 D.a5 D.a6 D.a7 q2)
    · exact (sb.2 _ D.a2).trans t.to
    · exact t.it1.keep fun o e => (sb.2 _ D.a3).trans e
    · exact t.it2.keep fun o e => (sb.2 _ D.a4).trans e
    · have lt : c < s.heap.objs.size := by
        have e : c = z ∨ c = TI ∨ c = TO ∨ c = i1 ∨ c = i2 := by simpa using hcm
        rcases e with rfl | rfl | rfl | rfl | rfl
        · exact zl
        · exact Heap.lt_size q2
        · exact Heap.lt_size q3
        · obtain ⟨_, e, _⟩ := q4.obj; exact Heap.lt_size e
        · obtain ⟨_, e, _⟩ := q5.obj; exact Heap.lt_size e
      rw [upd_ne (Nat.ne_of_lt lt)]
      exact (hf c hcm).1
  done := by
    intro X hP hw hK hc i pins s σ H E I hf st hg
    subst hP hw hK
    obtain ⟨q1, q2, ⟨x0, y0, q3⟩, q4, q5⟩ := st
    obtain ⟨k1, k2, l⟩ := hg
    have over : xs[i]? = none ∨ ys[i]? = none := by
      rcases l with l | l
      · exact .inl (List.getElem?_eq_none_iff.mpr l)
      · exact .inr (List.getElem?_eq_none_iff.mpr l)
    exact next_over (I.ok.hd hc) D q1 q2 q3 q4 q5 (sk_at I k1) (sk_at I k2) over fun h' tk kk => ⟨rfl, I.turnedL (t' := tk) (ch := [z, TI, TO, i1, i2]) (fun c o hb q =>
      kk c o (fun e => hb (by simp [e])) (fun e => hb (by simp [e])) (fun e => hb (by simp [e])) (fun e => hb (by simp [e])) q) hf⟩
  self := fun A i s Q E st h => wpAny_pyIter_zip st.1 h
/-- zip(a, b), each a list, a tuple or a text -/
def zK (K : PySem.W.Frag) (R : It → Hp → Prop) : List V → Hp → Prop := fun vs H => ∃ S T xs ys, vs = [S.v, T.v] ∧ SK K H xs S ∧ SK K H ys T ∧ R (ItQ K S T xs ys) H
def iZipQ (K : PySem.W.Frag) (ta : TA) : TI := fun σ H R => ta σ H (zK K R)
theorem pi_zipQ {X : Cx} {e e2 : Expr} {ta : TA} {p pos tpos : Pos} {elts : List Expr} {kk : Nat} (hg : Gl X "zip") (hm : X.mg "zip" = none) (ha : PA X [e, e2] ta)
    (hs : starEach [e, e2] X.env = (false, eval e X.env) :: starEach [e2] X.env := by rfl) (hpl : (backTo pos (starEach [e2] X.env)).any (·.1) = false := by rfl) :
    PI X (.Tuple elts kk tpos) (.Call (.Name "zip" p) [e, e2] [] pos) (iZipQ X.K ta) := by
  constructor
  intro pins s σ H R I h
  refine Call_ (ld_blt I hg hm PyProof.Rows.boot_zip (PyProof.Rows.callWith_type1 (thn (ha.run pos pins s σ H _ I h) fun us s1 z => ?_) hs hpl))
  obtain ⟨vs, H1, I1, r, S, T, xs, ys, rfl, k1, k2, q⟩ := z
  cases r with
  | cons r1 rr =>
    cases rr with
    | cons r2 rr =>
      cases rr
      have at2 : ∀ o, T.at (s1.heap.push o) ys := fun o => by
        have z := sk_at I1 k2
        cases T with
        | lst a => obtain ⟨vs, rv, l⟩ := z; exact ⟨vs, rv, l.push o⟩
        | tup a => obtain ⟨vs, rv, l⟩ := z; exact ⟨vs, rv, l.push o⟩
        | str x => exact z
      refine callType_new F.called_zip (by decide) (F.typeCall_zip_2 _ _) (F.newCall_zip_2 _ _) (fun obj => F.args_object_init_3 obj _ _) F.entry_zip_new (zip_made S T xs ys _ _ r1 r2) ?_
      refine ⟨sk_at I1 k1, at2, fun h' q1 q2 q3 q4 q5 kk => ?_⟩
      refine ⟨⟨_, q1, rfl⟩, wpAny_pyIter_zip q1 ?_⟩
      generalize hn : s1.heap.objs.size = n at *
      have J : Inv X pins σ H1 { s1 with heap := h' } := I1.kept (t' := s1.toks) kk
      have ne : ∀ a b : Nat, a ≠ b → ((n + a : Nat) : Addr) ≠ ((n + b : Nat) : Addr) := fun a b h e => h (Nat.add_left_cancel e)
      have big : ∀ c ∈ [n + 4, n + 2, n + 3, n, n + 1], s1.heap.objs.size ≤ c := by
        intro c hc
        rw [hn]
        have e : c = n + 4 ∨ c = n + 2 ∨ c = n + 3 ∨ c = n ∨ c = n + 1 := by simpa using hc
        rcases e with rfl | rfl | rfl | rfl | rfl
        · exact Nat.le_add_right _ _
        · exact Nat.le_add_right _ _
        · exact Nat.le_add_right _ _
        · exact Nat.le_refl _
        · exact Nat.le_add_right _ _
      have sm : ∀ c ∈ [n + 4, n + 3, n, n + 1], s1.heap.objs.size ≤ c := by
        intro c hc
        refine big c ?_
        have e : c = n + 4 ∨ c = n + 3 ∨ c = n ∨ c = n + 1 := by simpa using hc
        rcases e with rfl | rfl | rfl | rfl <;> simp
      have D : Far (n + 4) (n + 2) (n + 3) n (n + 1) S T :=
        ⟨ne 2 4 (by decide), ne 3 4 (by decide), ne 0 4 (by decide), ne 1 4 (by decide), ne 2 3 (by decide), ne 2 0 (by decide), ne 2 1 (by decide), ne 3 0 (by decide), ne 3 1 (by decide), ne 0 1 (by decide), sk_lt I1 k1 _ sm, sk_lt I1 k2 _ sm⟩
      refine ⟨n + 4, [n + 4, n + 2, n + 3, n, n + 1], _, _, H1, rfl, J, turn_q D, ⟨q1, q2, ⟨_, _, q3⟩, q4, q5⟩, fun c hc => ?_, q⟩
      exact I1.fpOk (big c hc) (I1.hok.fresh (big c hc))
end VZ

/-! VZ4: enumerate of a list, a tuple, a text; sum of a tuple; list of a text -/
namespace VZ
open PySem PySem.Spec L2
open PySem.Sem (wp)
section
variable {prog : Program} {w : World} {A : Around} {E : Value → Shared → Prop} {s : Shared}
theorem enum_turn {e it : Addr} {S : Src} {xs : List V} {k : Nat} {x : V} {old : Value} {Q : Value → Shared → Prop} (he : IsEnum s.heap e it k old) (hi : S.it s.heap it k) (ha : S.at s.heap xs) (hx : xs[k]? = some x) (hne : e ≠ it)
    (hQ : ∀ h' tk u t, RelV x u → IsEnumOut h' e it ((k : Int) + 1) u s.heap.objs.size → S.it h' it (k + 1) →
      h'.get? s.heap.objs.size = some { cls := .type "tuple", data := .seq #[.int k t, u] } →
      (∀ b o, b ≠ e → b ≠ it → s.heap.get? b = some o → h'.get? b = some o) → Q (.ref s.heap.objs.size) { s with heap := h', toks := tk }) :
    wpAny (model prog w) A (Builtin.«enumerate.__next__» ⟨[.ref e], []⟩) (fun fin s' => ∃ v, fin = .done (.ret v) ∧ Q v s') E s := by
  obtain ⟨hp, g, d, tk, os⟩ := s
  show wpAny _ _ (field (.ref e) 2 >>= _) _ _ _
  refine wpAny_bind (wpAny_field he rfl (x := .ref it) rfl ?_)
  refine wpAny_bind (src_item ha hi hx fun u h₁ tk1 ru hit₁ hs₁ => ?_)
  replace hs₁ : Heap.SameBut it hp h₁ := hs₁
  have he₁ : IsEnum h₁ e it k old := (hs₁.2 e hne).trans he
  show wpAny _ _ (field (.ref e) 3 >>= _) _ _ ⟨h₁, g, d, tk1, os⟩
  refine wpAny_bind (wpAny_field he₁ rfl (x := rawInt k) rfl ?_)
  show wpAny _ _ (field (.ref e) 4 >>= _) _ _ ⟨h₁, g, d, tk1, os⟩
  refine wpAny_bind (wpAny_field he₁ rfl (x := .none) rfl ?_)
  show wpAny _ _ (mkInt k >>= _) _ _ ⟨h₁, g, d, tk1, os⟩
  refine wpAny_bind (wpAny_mkInt ?_)
  show wpAny _ _ (setField (.ref e) 3 (rawInt ((k : Int) + 1)) >>= _) _ _ ⟨h₁, g, d, tk1 + 1, os⟩
  refine wpAny_bind (wpAny_setField_rec he₁ (by simp) fun h₂ he₂ hs₂ => ?_)
  replace hs₂ : Heap.SameBut e h₁ h₂ := hs₂
  replace he₂ : IsEnum h₂ e it ((k : Int) + 1) old := he₂
  show wpAny _ _ (setField (.ref e) 4 .none >>= _) _ _ ⟨h₂, g, d, tk1 + 1, os⟩
  refine wpAny_bind (wpAny_setField_rec he₂ (by simp) fun h₃ he₃ hs₃ => ?_)
  replace hs₃ : Heap.SameBut e h₂ h₃ := hs₃
  replace he₃ : IsEnum h₃ e it ((k : Int) + 1) old := he₃
  show wpAny _ _ (newTuple [.int k tk1, u] >>= _) _ _ ⟨h₃, g, d, tk1 + 1, os⟩
  refine wpAny_bind (wpAny_newTuple ?_)
  have he₄ : IsEnum (h₃.push { cls := .type "tuple", data := .seq #[.int k tk1, u] }) e it ((k : Int) + 1) old := Heap.get?_push_of_some _ he₃
  generalize hh₄ : h₃.push { cls := .type "tuple", data := .seq #[.int k tk1, u] } = h₄ at he₄
  have hsz : h₃.objs.size = hp.objs.size := by rw [hs₃.1, hs₂.1, hs₁.1]
  have hel : e < hp.objs.size := Heap.lt_size he
  have ht₄ : h₄.get? hp.objs.size = some { cls := .type "tuple", data := .seq #[.int k tk1, u] } := by rw [← hh₄, ← hsz]; exact Heap.get?_push_size _ rfl
  have hk₄ : ∀ b o, b ≠ e → b ≠ it → hp.get? b = some o → h₄.get? b = some o := fun b o hbe hbi hb => by
    rw [← hh₄]; exact Heap.get?_push_of_some _ (hs₃.extBut b o hbe (hs₂.extBut b o hbe (hs₁.extBut b o hbi hb)))
  have hit₄ : S.it h₄ it (k + 1) := by
    rw [← hh₄]
    exact ((hit₁.ext hs₂.extBut (Ne.symm hne)).ext hs₃.extBut (Ne.symm hne)).keep fun o z => Heap.get?_push_of_some _ z
  show wpAny _ _ (Builtin.SmallTypes.ownedTupleIsFree (.ref e) >>= _) _ _ ⟨h₄, g, d, tk1 + 1, os⟩
  rw [hsz]
  clear hh₄ he₃ hs₃ he₂ hs₂ he₁ hs₁ hit₁ hsz h₃ h₂ h₁
  refine wpAny_bind ?_
  · unfold Builtin.SmallTypes.ownedTupleIsFree
    refine wpAny_bind (wpAny_field he₄ rfl (x := .none) rfl (wpAny_pure ?_))
    simp only [if_true]
    refine wpAny_bind (wpAny_rule ?_)
    refine wpAny_bind (wpAny_field he₄ rfl (x := old) rfl ?_)
    refine wpAny_bind (wpAny_setField_rec he₄ (by simp) fun h₅ he₅ hs₅ => ?_)
    replace hs₅ : Heap.SameBut e h₄ h₅ := hs₅
    replace he₅ : IsEnum h₅ e it ((k : Int) + 1) u := he₅
    show wpAny _ _ (Builtin.SmallTypes.ownedTupleHandOut (.ref e) (.ref hp.objs.size) >>= _) _ _ ⟨h₅, g, d, tk1 + 1, os⟩
    refine wpAny_bind ?_
    · unfold Builtin.SmallTypes.ownedTupleHandOut
      refine wpAny_bind (wpAny_setField_rec he₅ (by simp) fun h₆ he₆ hs₆ => ?_)
      replace hs₆ : Heap.SameBut e h₅ h₆ := hs₆
      replace he₆ : IsEnumOut h₆ e it ((k : Int) + 1) u hp.objs.size := he₆
      refine wpAny_setField_rec he₆ (by simp) fun h₇ he₇ hs₇ => ?_
      replace hs₇ : Heap.SameBut e h₆ h₇ := hs₇
      replace he₇ : IsEnumOut h₇ e it ((k : Int) + 1) u hp.objs.size := he₇
      refine wpAny_bind (wpAny_letGo (wpAny_pure ⟨_, rfl, hQ h₇ _ u tk1 ru he₇ ?_ ?_ ?_⟩))
      · exact ((hit₄.ext hs₅.extBut (Ne.symm hne)).ext hs₆.extBut (Ne.symm hne)).ext hs₇.extBut (Ne.symm hne)
      · exact hs₇.extBut _ _ (Nat.ne_of_gt hel) (hs₆.extBut _ _ (Nat.ne_of_gt hel) (hs₅.extBut _ _ (Nat.ne_of_gt hel) ht₄))
      · exact fun b o hbe hbi hb => hs₇.extBut b o hbe (hs₆.extBut b o hbe (hs₅.extBut b o hbe (hk₄ b o hbe hbi hb)))
theorem enum_next {e it : Addr} {S : Src} {xs : List V} {k : Nat} {x : V} {old : Value} {Q : Option Value → Shared → Prop} (he : IsEnum s.heap e it k old) (hi : S.it s.heap it k) (ha : S.at s.heap xs) (hx : xs[k]? = some x) (hne : e ≠ it)
    (hQ : ∀ h' tk u t, RelV x u → IsEnumOut h' e it ((k : Int) + 1) u s.heap.objs.size → S.it h' it (k + 1) →
      h'.get? s.heap.objs.size = some { cls := .type "tuple", data := .seq #[.int k t, u] } →
      (∀ b o, b ≠ e → b ≠ it → s.heap.get? b = some o → h'.get? b = some o) → Q (some (.ref s.heap.objs.size)) { s with heap := h', toks := tk }) :
    wpAny (model prog w) A (pyNext (.ref e)) Q E s := by
  have hT : s.TypeIs (.ref e) "enumerate" := ⟨_, he, rfl⟩
  unfold pyNext
  exact wpAny_bind (wpAny_attempt (wpAny_callSpecial?_slot (name := Str.ofString "__next__") hT F.slot_enumerate_next
    (wpAny_call_entry F.slot_enumerate_next hT F.entry_enumerate_next
      (enum_turn he hi ha hx hne fun h' tk u t a b c d k => wpAny_pure (hQ h' tk u t a b c d k)) (F.args_enumerate_next_1 _))))
theorem enum_over {e it : Addr} {S : Src} {xs : List V} {k : Nat} {old : Value} {Q : Option Value → Shared → Prop} (hh : A.handled = none) (he : IsEnum s.heap e it k old) (hi : S.it s.heap it k) (ha : S.at s.heap xs) (hx : xs[k]? = none)
    (hQ : ∀ h', Heap.ExtBut it s.heap h' → Q none { s with heap := h' }) : wpAny (model prog w) A (pyNext (.ref e)) Q E s := by
  have hT : s.TypeIs (.ref e) "enumerate" := ⟨_, he, rfl⟩
  unfold pyNext
  refine wpAny_bind (wpAny_attempt (wpAny_callSpecial?_slot (name := Str.ofString "__next__") hT F.slot_enumerate_next
    (wpAny_call_entry F.slot_enumerate_next hT F.entry_enumerate_next ?_ (F.args_enumerate_next_1 _))))
  show wpAny _ _ (field (.ref e) 2 >>= _) _ _ _
  refine wpAny_bind (wpAny_field he rfl (x := .ref it) rfl ?_)
  refine wpAny_bind (src_end (show A.in1.handled = none from hh) ha hi hx fun h' x he' hx' => ?_)
  obtain ⟨o, ho, hc⟩ := hx'
  refine wpAny_bind (wpAny_isInstance (T := "StopIteration") (b := true) ⟨o, ho, hc⟩ isSubtype_stop ?_)
  exact wpAny_pure (hQ _ he')
end
open AutoSeq1 (wpAny_loadPart')
theorem meets_enumT (l : Addr) (items : Array Value) (n : Nat) (dct : Option Addr) (sl : Array (Option Value)) :
    Meets (Builtin.«enumerate.__new__» ⟨[.type "enumerate", .ref l], []⟩) (fun _ R s => s.heap.get? l = some { cls := .type "tuple", dict := dct, data := .seq items n, slots := sl } ∧
      R (.ok (.ret (.ref (s.heap.push { cls := .type "tuple_iterator", data := .fields #[.ref l, .int 0 0] }).objs.size)))
        { s with heap := (s.heap.push { cls := .type "tuple_iterator", data := .fields #[.ref l, .int 0 0] }).push { cls := .type "enumerate", data := .fields #[.none, .bool false, .ref s.heap.objs.size, rawInt 0, .none, .none] } }) :=
  .of_wp fun prog w A R s h => by
    obtain ⟨hp, g, d, tk, os⟩ := s; obtain ⟨hl, h⟩ := h
    have hsub := sub_enumerate
    have hL : Heap.IsTuple (Shared.heap ⟨hp, g, d, tk, os⟩) l items := ⟨_, hl, rfl, n, rfl⟩
    wp_walk using wpAny_loadPart' hl
    refine wpAny_stack_any fun st => wpAny_pure ?_
    split
    · rename_i c _ _ _ _ _
      cases (c == Value.type "enumerate")
      · wp_walk using wpAny_loadPart' hl, wpAny_pyIter_tuple hL
        exact ⟨_, rfl, h⟩
      · wp_walk using wpAny_loadPart' hl, wpAny_pyIter_tuple hL
        exact ⟨_, rfl, h⟩
    · wp_walk using wpAny_loadPart' hl, wpAny_pyIter_tuple hL
      exact ⟨_, rfl, h⟩
section
variable {prog : Program} {w : World} {A : Around} {E : Value → Shared → Prop} {s : Shared}
theorem call_enumT {l : Addr} {items : Array Value} {Q : Value → Shared → Prop} (hL : s.heap.IsTuple l items)
    (h : ∀ h', IsEnum h' (s.heap.objs.size + 1) s.heap.objs.size 0 .none → h'.IsTupleIter s.heap.objs.size l 0 →
      (∀ b o, s.heap.get? b = some o → h'.get? b = some o) → Q (.ref (s.heap.objs.size + 1)) { s with heap := h' }) :
    wpAny (model prog w) A (call (.type "enumerate") [.ref l]) Q E s := by
  obtain ⟨⟨c, dct, dt, sl⟩, hl, hc, n, hd⟩ := hL
  replace hc : c = .type "tuple" := hc
  replace hd : dt = .seq items n := hd
  subst hc hd
  refine callType_new F.called_enumerate (by decide) (F.typeCall_enumerate_1 _) (F.newCall_enumerate_1 _) (fun obj => F.args_object_init_2 obj _) F.entry_enumerate_new
    (meets_enumT l items n dct sl) ⟨hl, ?_⟩
  have hz : (s.heap.push { cls := .type "tuple_iterator", data := .fields #[.ref l, .int 0 0] }).objs.size = s.heap.objs.size + 1 := Heap.size_push ..
  show _ ∧ _
  rw [hz]
  have he : IsEnum ((s.heap.push { cls := .type "tuple_iterator", data := .fields #[.ref l, .int 0 0] }).push
      { cls := .type "enumerate", data := .fields #[.none, .bool false, .ref s.heap.objs.size, rawInt 0, .none, .none] }) (s.heap.objs.size + 1) s.heap.objs.size 0 .none := by
    have := Heap.get?_push_size (s.heap.push { cls := .type "tuple_iterator", data := .fields #[.ref l, .int 0 0] })
      (o := { cls := .type "enumerate", data := .fields #[.none, .bool false, .ref s.heap.objs.size, rawInt 0, .none, .none] }) rfl
    rw [hz] at this; exact this
  exact ⟨⟨_, he, rfl⟩, h _ he ⟨_, Heap.get?_push_of_some _ (Heap.get?_push_size _ rfl), rfl, rfl⟩ fun b o x => Heap.get?_push_of_some _ (Heap.get?_push_of_some _ x)⟩
/-- enumerate of what may be walked -/
theorem call_enumQ {S : Src} {xs : List V} {u : Value} {Q : Value → Shared → Prop} (ha : S.at s.heap xs) (ru : RelV S.v u)
    (h : ∀ h', IsEnum h' (s.heap.objs.size + 1) s.heap.objs.size 0 .none → S.it h' s.heap.objs.size 0 →
      (∀ b o, s.heap.get? b = some o → h'.get? b = some o) → Q (.ref (s.heap.objs.size + 1)) { s with heap := h' }) :
    wpAny (model prog w) A (call (.type "enumerate") [u]) Q E s := by
  cases S with
  | lst a =>
    obtain ⟨us, r, l⟩ := ha
    obtain rfl : u = .ref a := ru
    exact call_enumerate_list l fun h' h1 h2 _ h4 => h h' h1 h2 h4
  | tup a =>
    obtain ⟨us, r, l⟩ := ha
    obtain rfl : u = .ref a := ru
    exact call_enumT l h
  | str z =>
    obtain ⟨t, rfl⟩ : ∃ t, u = .str z t := ru
    refine call_enumerate_str fun h' h1 h2 _ h4 => h h' h1 ⟨t, ?_⟩ h4
    unfold strIterType at h2
    cases hz : z.cps.all (· < 128)
    · rw [hz] at h2; exact .inr h2
    · rw [hz] at h2; exact .inl h2
end
end VZ

/-! VZ5: rules over VZ4, and loops over pairs -/
namespace VZ
open PySem PySem.Spec PyProof.Rows L2 VB
/-- the numbers and items of xs, which stands still -/
def ItN (K : PySem.W.Frag) (S : Src) (xs : List V) : It :=
  ⟨fun i H => SK K H xs S ∧ i < xs.length,
    fun i H v H' => ∃ p x, v = .ref p ∧ H p = none ∧ H' = upd H p (.tup [.int (i : Nat), x]) ∧ xs[i]? = some x,
    fun i H => SK K H xs S ∧ xs.length ≤ i⟩
theorem turn_n {P : Program} {w : World} {K : PySem.W.Frag} {elts : List Expr} {kk : Nat} {tpos : Pos} {e it : Addr} {S : Src} {xs : List V} (off : S.off [e, it]) :
    Turn P w K (.Tuple elts kk tpos) (ItN K S xs) [e, it] e (fun i h => (∃ old, IsEnum h e it ((i : Nat) : Int) old) ∧ S.it h it i ∧ e ≠ it) where
  mem := by simp
  obj := by
    intro i h st b hb
    obtain ⟨⟨old, he⟩, q, _⟩ := st
    have e' : b = e ∨ b = it := by simpa using hb
    rcases e' with rfl | rfl
    · exact ⟨_, he, fun v q => nomatch q⟩
    · exact q.obj
  keep := by
    intro i h h' st k
    obtain ⟨⟨old, he⟩, hi, hne⟩ := st
    exact ⟨⟨old, k e (by simp) _ he⟩, hi.keep fun o q => k it (by simp) o q, hne⟩
  item := by
    intro X hP hw hK hc i pins s σ H E I hf st hg
    subst hP hw hK
    obtain ⟨⟨old, he⟩, hit, hne⟩ := st
    obtain ⟨k1, l1⟩ := hg
    have hx : xs[i]? = some xs[i] := List.getElem?_eq_getElem l1
    have hel : e < s.heap.objs.size := Heap.lt_size he
    have hil : it < s.heap.objs.size := by obtain ⟨_, q, _⟩ := hit.obj; exact Heap.lt_size q
    refine enum_next he hit (sk_at I k1) hx hne fun h' tk u t ru ho hit' hT hk => ?_
    refine ⟨_, rfl, wpAny_letOwnedTupleGo_enum (s := { s with heap := h', toks := tk }) ho fun h'' he' sb => ?_⟩
    have hT2 : h''.get? s.heap.objs.size = some { cls := .type "tuple", data := .seq #[.int i t, u] } := (sb.2 _ (Nat.ne_of_gt hel)).trans hT
    have new : ObjOk X.prog X.w (upd H s.heap.objs.size (.tup [.int (i : Nat), xs[i]])) h'' s.heap.objs.size (.tup [.int (i : Nat), xs[i]]) :=
      ⟨by show 2 ≤ sizeLine; decide, [.int i t, u], .cons ⟨_, rfl⟩ (.cons ru .nil), ⟨_, hT2, rfl, _, rfl⟩⟩
    have I1 : Inv X pins σ (upd H s.heap.objs.size (.tup [.int (i : Nat), xs[i]])) { s with heap := h'', toks := tk } :=
      I.turnedNew (t' := tk) (ch := [e, it]) (fun b ob hb q => (sb.2 b (fun z => hb (by simp [z]))).trans (hk b ob (fun z => hb (by simp [z])) (fun z => hb (by simp [z])) q)) hf (Nat.le_refl _) new
    refine ⟨.ref s.heap.objs.size, _, I1, rfl, ⟨_, _, rfl, I.hok.fresh (Nat.le_refl _), rfl, hx⟩, ⟨⟨u, ?_⟩, hit'.keep fun o q => (sb.2 it (Ne.symm hne)).trans q, hne⟩, fun b hb => ?_⟩
    · have e1 : ((i + 1 : Nat) : Int) = (i : Int) + 1 := by omega
      rw [e1]; exact he'
    · have hb' : b < s.heap.objs.size := by
        have e' : b = e ∨ b = it := by simpa using hb
        rcases e' with z | z
        · rw [z]; exact hel
        · rw [z]; exact hil
      rw [upd_ne (Nat.ne_of_lt hb')]
      exact (hf b hb).1
  done := by
    intro X hP hw hK hc i pins s σ H E I hf st hg
    subst hP hw hK
    obtain ⟨⟨old, he⟩, hit, hne⟩ := st
    obtain ⟨k1, l1⟩ := hg
    obtain ⟨f0, f1, f2, f3, f4, f5⟩ := hf it (by simp)
    exact enum_over (I.ok.hd hc) he hit (sk_at I k1) (List.getElem?_eq_none_iff.mpr l1) fun h' eb => ⟨rfl, I.turned (t' := s.toks) (fun b o hb q => eb b o hb q) f0 f1 f3 f4 f5⟩
  self := fun A i s Q E st h => let ⟨⟨_, he⟩, _⟩ := st; wpAny_pyIter_enum he h
def nK (K : PySem.W.Frag) (R : It → Hp → Prop) : List V → Hp → Prop := fun vs H => ∃ S xs, vs = [S.v] ∧ SK K H xs S ∧ R (ItN K S xs) H
def iNumQ (K : PySem.W.Frag) (ta : TA) : TI := fun σ H R => ta σ H (nK K R)
theorem pi_enumQ {X : Cx} {e : Expr} {ta : TA} {p pos tpos : Pos} {elts : List Expr} {kk : Nat} (hg : Gl X "enumerate") (hm : X.mg "enumerate" = none) (ha : PA X [e] ta) (hs : starEach [e] X.env = [(false, eval e X.env)] := by rfl) :
    PI X (.Tuple elts kk tpos) (.Call (.Name "enumerate" p) [e] [] pos) (iNumQ X.K ta) := by
  refine ⟨fun pins s σ H R I h => ?_⟩
  refine Call_ (ld_blt I hg hm boot_enumerate (PyProof.Rows.callWith_type1 (thn (ha.run pos pins s σ H _ I h) fun us s1 z => ?_) hs rfl))
  obtain ⟨vs, H1, I1, r, S, xs, rfl, k1, q⟩ := z
  cases r with
  | cons r1 rr =>
    cases rr
    refine call_enumQ (sk_at I1 k1) r1 fun h' he hit hk => wpAny_pyIter_enum he ?_
    have I2 : Inv X pins σ H1 { s1 with heap := h' } := I1.kept (t' := s1.toks) hk
    have big : ∀ b ∈ [s1.heap.objs.size + 1, s1.heap.objs.size], s1.heap.objs.size ≤ b := by
      intro b hb
      have e' : b = s1.heap.objs.size + 1 ∨ b = s1.heap.objs.size := by simpa using hb
      rcases e' with z | z
      · rw [z]; exact Nat.le_add_right _ _
      · rw [z]; exact Nat.le_refl _
    refine ⟨s1.heap.objs.size + 1, [s1.heap.objs.size + 1, s1.heap.objs.size], _, _, H1, rfl, I2, turn_n (sk_lt I1 k1 _ big), ⟨⟨.none, he⟩, hit, Nat.succ_ne_self _⟩, fun b hb => ?_, q⟩
    exact I1.fpOk (big b hb) (I1.hok.fresh (big b hb))
/-! ### loops over any walk of n turns -/
section
variable {σ : L2.St} {H : Hp} {D : Ends} {J : It} {n : Nat} {g : TG} {tb : TS} {tt : TT} {te : TE} {vs : List Nat} {Q : VK} {K : PySem.W.Frag} {S T : Src} {xs ys : List V}
theorem r_forG (Pv : Nat → L2.St → Hp → Prop) (h0 : Pv 0 σ H) (hg : ∀ i σ H, i < n → Pv i σ H → J.go i H) (hz : ∀ σ H, Pv n σ H → J.stop n H)
    (hs : ∀ i x σ H H', i < n → Pv i σ H → J.yld i H x H' → g x σ H' fun σ2 H2 => tb { D with nx := Pv (i + 1), ct := Pv (i + 1), bk := D.nx } σ2 H2) (hd : ∀ σ H, Pv n σ H → D.nx σ H) : forK g tb D σ J H := by
  refine ⟨fun i m σ H => i + m = n ∧ Pv i σ H, ⟨n, by omega, h0⟩, fun i m σ H h => ?_⟩
  obtain ⟨e, p⟩ := h
  by_cases hi : i < n
  · exact .inr ⟨hg i σ H hi p, Pv (i + 1), fun σ' H' q => ⟨n - (i + 1), by omega, by omega, q⟩, fun x H' y => hs i x σ H H' hi p y⟩
  · have : i = n := by omega
    subst this
    exact .inl ⟨hz σ H p, hd σ H p⟩
theorem r_lcG (Pv : Addr → Nat → Hp → Prop) (h0 : ∀ E, H E = none → Pv E 0 (upd H E (.lst []))) (hg : ∀ E i H', H E = none → i < n → Pv E i H' → J.go i H') (hz : ∀ E H', H E = none → Pv E n H' → J.stop n H')
    (hs : ∀ E i x H' H2, H E = none → i < n → Pv E i H' → J.yld i H' x H2 → g x (wipe σ vs) H2 (wK vs σ tt te E (Pv E (i + 1)))) (hd : ∀ E H', H E = none → Pv E n H' → Q (.ref E) H') : lcK g tt te vs σ Q J H := by
  intro E hE
  refine ⟨fun i m H' => i + m = n ∧ Pv E i H', ⟨n, by omega, h0 E hE⟩, fun i m H' h => ?_⟩
  obtain ⟨e, p⟩ := h
  by_cases hi : i < n
  · exact .inr ⟨hg E i H' hE hi p, Pv E (i + 1), fun H2 q => ⟨n - (i + 1), by omega, by omega, q⟩, fun x H2 y => hs E i x H' H2 hE hi p y⟩
  · have : i = n := by omega
    subst this
    exact .inl ⟨hz E H' hE p, hd E H' hE p⟩
theorem r_zk {R : It → Hp → Prop} (S T : Src) (h1 : SK K H xs S) (h2 : SK K H ys T) (h : R (ItQ K S T xs ys) H) : zK K R [S.v, T.v] H := ⟨S, T, xs, ys, rfl, h1, h2, h⟩
theorem r_nk {R : It → Hp → Prop} (S : Src) (h1 : SK K H xs S) (h : R (ItN K S xs) H) : nK K R [S.v] H := ⟨S, xs, rfl, h1, h⟩
theorem r_iZ {ta : TA} {R : It → Hp → Prop} (h : ta σ H (zK K R)) : iZipQ K ta σ H R := h
theorem r_iN {ta : TA} {R : It → Hp → Prop} (h : ta σ H (nK K R)) : iNumQ K ta σ H R := h
/-- over pairs -/
theorem r_forZ (Pv : Nat → L2.St → Hp → Prop) (h0 : Pv 0 σ H) (hk : ∀ i σ H, i ≤ min xs.length ys.length → Pv i σ H → SK K H xs S ∧ SK K H ys T)
    (hs : ∀ i p x y σ H, xs[i]? = some x → ys[i]? = some y → H p = none → Pv i σ H → g (.ref p) σ (upd H p (.tup [x, y])) fun σ2 H2 => tb { D with nx := Pv (i + 1), ct := Pv (i + 1), bk := D.nx } σ2 H2)
    (hd : ∀ σ H, Pv (min xs.length ys.length) σ H → D.nx σ H) : forK g tb D σ (ItQ K S T xs ys) H := by
  refine r_forG Pv h0 (fun i σ H hi p => ?_) (fun σ H p => ?_) (fun i v σ H H' hi p y => ?_) hd
  · obtain ⟨a, b⟩ := hk i σ H (by omega) p
    exact ⟨a, b, by omega, by omega⟩
  · obtain ⟨a, b⟩ := hk _ σ H (Nat.le_refl _) p
    exact ⟨a, b, by omega⟩
  · obtain ⟨q, x, z, rfl, hq, rfl, hx, hz⟩ := y
    exact hs i q x z σ H hx hz hq p
theorem r_lcZ (Pv : Addr → Nat → Hp → Prop) (h0 : ∀ E, H E = none → Pv E 0 (upd H E (.lst []))) (hk : ∀ E i H', H E = none → i ≤ min xs.length ys.length → Pv E i H' → SK K H' xs S ∧ SK K H' ys T)
    (hs : ∀ E i p x y H', H E = none → xs[i]? = some x → ys[i]? = some y → H' p = none → Pv E i H' → g (.ref p) (wipe σ vs) (upd H' p (.tup [x, y])) (wK vs σ tt te E (Pv E (i + 1))))
    (hd : ∀ E H', H E = none → Pv E (min xs.length ys.length) H' → Q (.ref E) H') : lcK g tt te vs σ Q (ItQ K S T xs ys) H := by
  refine r_lcG Pv h0 (fun E i H' hE hi p => ?_) (fun E H' hE p => ?_) (fun E i v H' H2 hE hi p y => ?_) hd
  · obtain ⟨a, b⟩ := hk E i H' hE (by omega) p
    exact ⟨a, b, by omega, by omega⟩
  · obtain ⟨a, b⟩ := hk E _ H' hE (Nat.le_refl _) p
    exact ⟨a, b, by omega⟩
  · obtain ⟨q, x, z, rfl, hq, rfl, hx, hz⟩ := y
    exact hs E i q x z H' hE hx hz hq p
/-- over numbers and items -/
theorem r_forN (Pv : Nat → L2.St → Hp → Prop) (h0 : Pv 0 σ H) (hk : ∀ i σ H, i ≤ xs.length → Pv i σ H → SK K H xs S)
    (hs : ∀ i p x σ H, xs[i]? = some x → H p = none → Pv i σ H → g (.ref p) σ (upd H p (.tup [.int (i : Nat), x])) fun σ2 H2 => tb { D with nx := Pv (i + 1), ct := Pv (i + 1), bk := D.nx } σ2 H2)
    (hd : ∀ σ H, Pv xs.length σ H → D.nx σ H) : forK g tb D σ (ItN K S xs) H := by
  refine r_forG Pv h0 (fun i σ H hi p => ⟨hk i σ H (by omega) p, hi⟩) (fun σ H p => ⟨hk _ σ H (Nat.le_refl _) p, Nat.le_refl _⟩) (fun i v σ H H' hi p y => ?_) hd
  obtain ⟨q, x, rfl, hq, rfl, hx⟩ := y
  exact hs i q x σ H hx hq p
theorem r_lcN (Pv : Addr → Nat → Hp → Prop) (h0 : ∀ E, H E = none → Pv E 0 (upd H E (.lst []))) (hk : ∀ E i H', H E = none → i ≤ xs.length → Pv E i H' → SK K H' xs S)
    (hs : ∀ E i p x H', H E = none → xs[i]? = some x → H' p = none → Pv E i H' → g (.ref p) (wipe σ vs) (upd H' p (.tup [.int (i : Nat), x])) (wK vs σ tt te E (Pv E (i + 1))))
    (hd : ∀ E H', H E = none → Pv E xs.length H' → Q (.ref E) H') : lcK g tt te vs σ Q (ItN K S xs) H := by
  refine r_lcG Pv h0 (fun E i H' hE hi p => ⟨hk E i H' hE (by omega) p, hi⟩) (fun E H' hE p => ⟨hk E _ H' hE (Nat.le_refl _) p, Nat.le_refl _⟩) (fun E i v H' H2 hE hi p y => ?_) hd
  obtain ⟨q, x, rfl, hq, rfl, hx⟩ := y
  exact hs E i q x H' hE hx hq p
end
/-! ### sum of a tuple, list and tuple of a text -/
section
variable {X : Cx}
def rSumT (K : PySem.W.Frag) : List V → Hp → VK → Prop := fun vs H Q => ∃ (a : Addr) (ns : List Int), vs = [V.ref a] ∧ (SqL K H a (ns.map V.int) ∨ SqT K H a (ns.map V.int)) ∧ Q (.int ns.sum) H
theorem sumT_raw {prog : Program} {w : World} {A : Around} {E : Value → Shared → Prop} {s : Shared} {l : Addr} {its : List Value} {ns : List Int} {Q : Value → Shared → Prop} (hh : A.handled = none) (hl : s.heap.IsTuple l its.toArray) (hi : IntsAre its ns)
    (h : ∀ h' tk t', (∀ b o, s.heap.get? b = some o → h'.get? b = some o) → Q (.int ns.sum t') { s with heap := h', toks := tk }) : wpAny (model prog w) A (call (.builtin "sum") [.ref l]) Q E s := by
  obtain ⟨xs, e⟩ := hi.allInts.items
  have hn : numsOf (intItems xs).toList = ns := by rw [← e]; exact hi.numsOf
  rw [nums_intItems] at hn
  rw [e] at hl
  have hlt : l < s.heap.objs.size := by obtain ⟨_, e, _⟩ := hl; exact Heap.lt_size e
  refine call_sum_walkG (wpAny_pyIter_tuple hl ?_)
  refine ⟨_, [s.heap.objs.size, l], _, _, _, _, numAt xs, rfl, Walks.tuple (A := A.in1) hh _ l (Nat.ne_of_lt hlt) (intItems xs), ⟨⟨_, Heap.get?_push_size _ rfl, rfl, rfl⟩, hl.push _⟩, fun b hb => ?_, (fun _ _ => intItems_at), fun h' tk t' hk => ?_⟩
  · show b < (s.heap.push _).objs.size
    rw [Heap.size_push]
    rcases List.mem_cons.mp hb with rfl | hb
    · exact Nat.lt_succ_self _
    · rcases List.mem_cons.mp hb with rfl | hb
      · exact Nat.lt_succ_of_lt hlt
      · cases hb
  · have old : ∀ b o, s.heap.get? b = some o → h'.get? b = some o := fun b o eo => by
      refine hk b o (fun hm => ?_) (Heap.get?_push_of_some _ eo)
      rcases List.mem_cons.mp hm with e1 | hm
      · exact absurd (e1 ▸ Heap.lt_size eo) (Nat.lt_irrefl _)
      · cases hm
    have := h h' tk t' old
    have e2 : preSum (numAt xs) (intItems xs).size = ns.sum := by
      rw [show (intItems xs).size = xs.size from by simp [intItems], preSum_eq, List.take_of_length_le (by simp), hn]
    rw [e2]
    exact this
theorem cr_sumT (hc : X.calm = true) : CallR X (.builtin "sum") (rSumT X.K) := by
  intro pins s σ H vs us Q I r h
  obtain ⟨a, ns, rfl, hs, q⟩ := h
  rcases hs with hs | hs
  · obtain ⟨its, rv, hl, _⟩ := I.list hs
    rw [Vals.ref1 r]
    exact sum_raw (I.ok.hd hc) hl.isList rv.ints fun h' tk t' hk => ⟨.int _, H, I.kept hk, ⟨_, rfl⟩, q⟩
  · obtain ⟨its, rv, hl, _⟩ := I.tuple hs
    rw [Vals.ref1 r]
    exact sumT_raw (I.ok.hd hc) hl rv.ints fun h' tk t' hk => ⟨.int _, H, I.kept hk, ⟨_, rfl⟩, q⟩
/-- list(text) -/
def rListS : List V → Hp → VK → Prop := fun xs H Q => ∃ z : Str, xs = [.str z] ∧ z.cps.size ≤ sizeLine ∧ ∀ l, H l = none → Q (.ref l) (upd H l (.lst (z.cps.toList.map fun c => V.str ⟨#[c]⟩)))
theorem vals_get : ∀ (xs : List V) (us : List Value), xs.length = us.length → (∀ (j : Nat) (x : V) (u : Value), xs[j]? = some x → us[j]? = some u → RelV x u) → Vals xs us
  | [], [], _, _ => .nil
  | [], _ :: _, h, _ => nomatch h
  | _ :: _, [], h, _ => nomatch h
  | x :: xs, u :: us, h, k => .cons (k 0 x u rfl rfl) (vals_get xs us (Nat.succ.inj h) fun j y v h1 h2 => k (j + 1) y v h1 h2)
theorem sign_vals (z : Str) (its : Array Value) (h : ItemsOf (SignAt z) its z.cps.size) : Vals (z.cps.toList.map fun c => V.str ⟨#[c]⟩) its.toList := by
  obtain ⟨hn, hi⟩ := h
  refine vals_get _ _ (by simp [hn]) fun j x y h1 h2 => ?_
  rw [List.getElem?_map] at h1
  obtain ⟨c, u, hc, rfl⟩ := hi j y (by simpa using h2)
  have hc' : z.cps.toList[j]? = some c := by simpa using hc
  rw [hc'] at h1
  cases h1
  exact ⟨u, rfl⟩
theorem call_listS (hc : X.calm = true) : CallR X (.type "list") rListS := by
  intro pins s σ H xs us Q I r h
  obtain ⟨z, rfl, hz, q⟩ := h
  obtain ⟨u, rfl, rx⟩ := vals1 r
  obtain ⟨t, rfl⟩ := rx
  refine call_list_str (I.ok.hd hc) z t (hn := hz) fun h' tk acc' c' hk e hacc => ?_
  exact ⟨.ref s.heap.objs.size, _, I.laid (t' := tk) hk (Nat.le_refl _) (show ObjOk X.prog X.w _ h' _ (.lst _) from ⟨by simpa using hz, acc'.toList, c', sign_vals z acc' hacc, by simpa using e⟩), rfl, q _ (I.hok.fresh (Nat.le_refl _))⟩
end
end VZ

/-! VC1: what is hidden while something is written; data, its readings; comprehensions of data -/
namespace VC
open PySem PySem.Spec PyProof.Rows L2 VB VZ
/-- a deck (its two objects), and objects that are being written -/
structure Md where
  dk : Option (Addr × Addr)
  ex : List Addr
def vd : Option (Addr × Addr) → Hp → Hp
  | none, H => H
  | some (d, l), H => hid d l H
def vw (m : Md) (H : Hp) : Hp := fun a => if a ∈ m.ex then none else vd m.dk H a
structure Ok (m : Md) (H : Hp) : Prop where
  dk : ∀ d l, m.dk = some (d, l) → DeckOk H d l
  ex : ∀ a ∈ m.ex, H a ≠ none
structure Go (m : Md) (H H' : Hp) : Prop where
  ok : Ok m H'
  st : Same (vd m.dk H) (vd m.dk H')
def Md.off (m : Md) (a : Addr) : Prop := ∀ d l, m.dk = some (d, l) → a ≠ d ∧ a ≠ l
def Md.add (m : Md) (E : Addr) : Md := ⟨m.dk, E :: m.ex⟩
section
variable {m : Md} {H H1 H2 H' : Hp} {a p E : Addr} {o : HO} {K : PySem.W.Frag}
theorem vd_sub {dk : Option (Addr × Addr)} : Same (vd dk H) H := by
  cases dk with
  | none => exact Same.refl _
  | some x => exact hid_sub
theorem vw_sub : Same (vw m H) H := fun b x e => by
  unfold vw at e
  split at e
  · cases e
  · exact vd_sub b x e
theorem vd_off (h : m.off a) : vd m.dk H a = H a := by
  cases e : m.dk with
  | none => rfl
  | some x => obtain ⟨d, l⟩ := x; exact hid_get (h d l e).1 (h d l e).2
theorem vw_some (e : vw m H a = some o) : a ∉ m.ex ∧ m.off a ∧ H a = some o := by
  unfold vw at e
  split at e
  · cases e
  · rename_i z
    refine ⟨z, fun d l hd => ?_, vd_sub _ _ e⟩
    rw [hd] at e
    obtain ⟨h1, h2, _⟩ := hid_some e
    exact ⟨h1, h2⟩
theorem vw_get (h1 : a ∉ m.ex) (h2 : m.off a) : vw m H a = H a := by
  unfold vw
  rw [if_neg h1, vd_off h2]
theorem same_vd {dk : Option (Addr × Addr)} (h : Same H H') : Same (vd dk H) (vd dk H') := by
  cases dk with
  | none => exact h
  | some x => exact same_hid h
theorem Ok.up (h : Ok m H) (e : Same H H') : Ok m H' := by
  refine ⟨fun d l q => (h.dk d l q).up e, fun a ha z => ?_⟩
  cases w : H a with
  | none => exact h.ex a ha w
  | some o => rw [e a o w] at z; cases z
theorem Go.refl (h : Ok m H) : Go m H H := ⟨h, Same.refl _⟩
theorem Go.trans (a : Go m H H1) (b : Go m H1 H2) : Go m H H2 := ⟨b.ok, a.st.trans b.st⟩
theorem _root_.L2.Dp.mv {K : PySem.W.Frag} {H H' : Hp} {v : V} {d : PyData} (h : Dp K H v d) (e : Same H H') : Dp K H' v d := dp_same e d v h
theorem _root_.L2.DpAll.mv {K : PySem.W.Frag} {H H' : Hp} {vs : List V} {ds : List PyData} (h : DpAll K H vs ds) (e : Same H H') : DpAll K H' vs ds := dpa_same e ds vs h
theorem Go.same (h : Ok m H) (e : Same H H') : Go m H H' := ⟨h.up e, same_vd e⟩
theorem Go.new (h : Ok m H) (hp : H p = none) : Go m H (upd H p o) := .same h (same_new hp)
theorem Go.vw (g : Go m H H') : Same (vw m H) (vw m H') := fun b x e => by
  obtain ⟨h1, h2, h3⟩ := vw_some e
  have z := g.st b x (by rw [vd_off h2]; exact h3)
  rw [vd_off h2] at z
  rw [vw_get h1 h2]
  exact z
theorem Go.at (g : Go m H H') (h : m.off a) (e : H a = some o) : H' a = some o := by
  have z := g.st a o (by rw [vd_off h]; exact e)
  rw [vd_off h] at z
  exact z
theorem Go.ne (g : Go m H H') (e : H a ≠ none) : H' a ≠ none := by
  cases w : H a with
  | none => exact absurd w e
  | some o =>
    by_cases h : m.off a
    · rw [g.at h w]
      intro z
      cases z
    · cases q : m.dk with
      | none => exact absurd (fun d l z => by rw [q] at z; cases z) h
      | some x =>
        obtain ⟨d, l⟩ := x
        have dk := g.ok.dk d l q
        by_cases z : a = d
        · rw [z]; intro y; exact (dk.ne y).1 rfl
        · by_cases y : a = l
          · rw [y]; intro y; exact (dk.ne y).2 rfl
          · exact absurd (fun d' l' q' => by rw [q] at q'; cases q'; exact ⟨z, y⟩) h
theorem Go.free (g : Go m H H') (e : H' a = none) : H a = none := Classical.byContradiction fun z => g.ne z e
theorem Ok.off (h : Ok m H) (hp : H p = none) : m.off p := fun d l q => (h.dk d l q).ne hp
theorem Ok.nex (h : Ok m H) (hp : H p = none) : p ∉ m.ex := fun q => h.ex p q hp
theorem vw_new (h : Ok m H) (hp : H p = none) : vw m (upd H p o) p = some o := by
  rw [vw_get (h.nex hp) (h.off hp)]
  exact upd_same
theorem Go.mut (g : Go m H H1) (h : Ok m H) (hp : H p = none) : Go m H (upd H1 p o) := by
  refine ⟨⟨fun d l q => ?_, fun a ha => ?_⟩, fun b x e => ?_⟩
  · obtain ⟨h1, h2⟩ := h.off hp d l q
    exact (g.ok.dk d l q).upo h1 h2
  · by_cases z : a = p
    · rw [z, upd_same]; intro y; cases y
    · rw [upd_ne z]; exact g.ok.ex a ha
  · have ho : H b = some x := vd_sub b x e
    have hb : b ≠ p := ne_of_none ho hp
    have := g.st b x e
    cases q : m.dk with
    | none => rw [q] at this; show upd H1 p o b = some x; rw [upd_ne hb]; exact this
    | some w =>
      obtain ⟨d, l⟩ := w
      rw [q] at this
      obtain ⟨i1, i2, i3⟩ := hid_some this
      show hid d l (upd H1 p o) b = some x
      rw [hid_get i1 i2, upd_ne hb]
      exact i3
theorem Ok.add (h : Ok m H) (e : H E ≠ none) : Ok (m.add E) H := ⟨h.dk, fun a ha => by
  rcases List.mem_cons.mp ha with rfl | z
  · exact e
  · exact h.ex a z⟩
theorem Ok.sub (h : Ok (m.add E) H) : Ok m H := ⟨h.dk, fun a ha => h.ex a (List.mem_cons_of_mem _ ha)⟩
theorem Go.sub (g : Go (m.add E) H H') : Go m H H' := ⟨g.ok.sub, g.st⟩
theorem Go.add (g : Go m H H') (e : H E ≠ none) : Go (m.add E) H H' := ⟨g.ok.add (g.ne e), g.st⟩
/-- what stood before E was made -/
theorem Go.old (g : Go m H H') (hE : H E = none) : Same (VC.vw m H) (VC.vw (m.add E) H') := fun b x e => by
  obtain ⟨h1, h2, h3⟩ := vw_some (g.vw b x e)
  have hb : b ≠ E := ne_of_none (vw_some e).2.2 hE
  rw [vw_get (m := m.add E) (fun z => (List.mem_cons.mp z).elim hb h1) h2]
  exact h3
theorem vw_addsub : Same (VC.vw (m.add E) H) (VC.vw m H) := fun b x e => by
  obtain ⟨h1, h2, h3⟩ := vw_some e
  rw [vw_get (fun z => h1 (List.mem_cons_of_mem _ z)) (m := m) h2]
  exact h3
theorem vw_addupd : VC.vw (m.add E) (upd H E o) = VC.vw (m.add E) H := by
  funext b
  unfold VC.vw
  by_cases z : b = E
  · rw [if_pos (z ▸ List.mem_cons_self), if_pos (z ▸ List.mem_cons_self)]
  · by_cases y : b ∈ (m.add E).ex
    · rw [if_pos y, if_pos y]
    · rw [if_neg y, if_neg y]
      cases q : (m.add E).dk with
      | none => exact upd_ne z
      | some w => obtain ⟨d, l⟩ := w; show hid d l _ b = hid d l _ b; unfold hid; rw [upd_ne z]
/-- E is written anew -/
theorem Go.write (g : Go m H H') (hE : H E = none) (h : Ok m H) : Go m H (upd H' E o) := g.mut h hE
/-! ### the deck's promises, here -/
theorem Go.adv {d l : Addr} (q : m.dk = some (d, l)) (h : Ok m H) (a : Adv d l H H') : Go m H H' := by
  have st : Same (vd m.dk H) (vd m.dk H') := by rw [q]; exact a.st
  have dkk : ∀ d' l', m.dk = some (d', l') → DeckOk H' d' l' := fun d' l' q' => by rw [q] at q'; cases q'; exact a.ok
  have g0 : Go ⟨m.dk, []⟩ H H' := ⟨⟨dkk, fun a ha => nomatch ha⟩, st⟩
  exact ⟨⟨dkk, fun b hb => g0.ne (h.ex b hb)⟩, st⟩
theorem vw_hid {d l : Addr} (q : m.dk = some (d, l)) : Same (VC.vw m H) (hid d l H) := fun b x e => by
  obtain ⟨h1, h2, h3⟩ := vw_some e
  rw [hid_get (h2 d l q).1 (h2 d l q).2]
  exact h3
end
/-! ### data at values -/
section
variable {K : PySem.W.Frag} {H H' : Hp} {v : V} {ds : List PyData} {vs : List V} {d : PyData}
theorem dp_tup (h : Dp K H v (.tuple ds)) : ∃ p xs, v = .ref p ∧ SqT K H p xs ∧ DpAll K H xs ds := by
  cases h with
  | tup hs ha => exact ⟨_, _, rfl, hs, ha⟩
theorem dp_lst (h : Dp K H v (.list ds)) : ∃ p xs, v = .ref p ∧ SqL K H p xs ∧ DpAll K H xs ds := by
  cases h with
  | lst hs ha => exact ⟨_, _, rfl, hs, ha⟩
theorem dp_int {i : Int} (h : Dp K H v (.int i)) : v = .int i := by cases h; rfl
theorem dp_str {x : Str} (h : Dp K H v (.str x)) : v = .str x := by cases h; rfl
theorem dpa_ints_inv : ∀ {ns : List Int} {vs : List V}, DpAll K H vs (ns.map PyData.int) → vs = ns.map V.int
  | [], _, h => by cases h; rfl
  | n :: r, _, h => by
    cases h with
    | cons h1 h2 =>
      rw [dp_int h1, dpa_ints_inv h2]
      rfl
theorem dpa_len : ∀ {vs : List V} {ds : List PyData}, DpAll K H vs ds → vs.length = ds.length
  | _, _, .nil => rfl
  | _, _, .cons _ h => congrArg (· + 1) (dpa_len h)
theorem dpa_get : ∀ {vs : List V} {ds : List PyData} {i : Nat} {v : V}, DpAll K H vs ds → vs[i]? = some v → ∃ d, ds[i]? = some d ∧ Dp K H v d
  | _, _, 0, _, .cons h _, e => by cases e; exact ⟨_, rfl, h⟩
  | _, _, i + 1, _, .cons _ h, e => dpa_get (i := i) h e
theorem dpa_get' : ∀ {vs : List V} {ds : List PyData} {i : Nat} {d : PyData}, DpAll K H vs ds → ds[i]? = some d → ∃ v, vs[i]? = some v ∧ Dp K H v d
  | _, _, 0, _, .cons h _, e => by cases e; exact ⟨_, rfl, h⟩
  | _, _, i + 1, _, .cons _ h, e => dpa_get' (i := i) h e
theorem dpa_app : ∀ {vs ws : List V} {ds es : List PyData}, DpAll K H vs ds → DpAll K H ws es → DpAll K H (vs ++ ws) (ds ++ es)
  | _, _, _, _, .nil, k => k
  | _, _, _, _, .cons h t, k => .cons h (dpa_app t k)
/-- a line of integers -/
def lnD (ns : List Int) : PyData := .tuple (ns.map .int)
def mtD (ls : List (List Int)) : PyData := .tuple (ls.map lnD)
theorem dp_line {ns : List Int} (h : Dp K H v (lnD ns)) : ∃ p, v = .ref p ∧ SqT K H p (ns.map V.int) := by
  obtain ⟨p, xs, rfl, hs, ha⟩ := dp_tup h
  rw [dpa_ints_inv ha] at hs
  exact ⟨p, rfl, hs⟩
theorem line_dp {ns : List Int} {p : Addr} (h : SqT K H p (ns.map V.int)) : Dp K H (.ref p) (lnD ns) := .tup h (dpa_ints ns)
theorem tyT {p : Addr} {xs : List V} (h : SqT K H p xs) : TyX K H (.ref p) (.type "tuple") := by
  rcases h with (h | ⟨o, h⟩) | ⟨o, its, n, h1, h2, _⟩
  · exact .base (.tup h)
  · exact .fTuple h
  · exact .kTuple h1 h2
end
/-! ### comprehensions that make data -/
section
variable {σ : L2.St} {H : Hp} {J : It} {n j : Nat} {te : TE} {Q : VK} {K : PySem.W.Frag} {m : Md}
/-- [e for x in J]: J yields f(0), f(1), ..; each e is data -/
theorem r_lcV (m : Md) (hm : Ok m H) (f : Nat → V) (hn : n ≤ 1000) (R : Nat → PyData → Prop) (hg : ∀ i H', i < n → Same (vw m H) (vw m H') → J.go i H') (hz : ∀ H', Same (vw m H) (vw m H') → J.stop n H')
    (hy : ∀ i H' x H2, i < n → Same (vw m H) (vw m H') → J.yld i H' x H2 → x = f i ∧ H2 = H')
    (hs : ∀ (E : Addr) (i : Nat) (H' : Hp) (S : VK), i < n → Go m H H' → Ok (m.add E) H' → Same (vw m H) (vw (m.add E) H') → (∀ v H2 x, Go (m.add E) H' H2 → Dp K (vw (m.add E) H2) v x → R i x → S v H2) → te ((wipe σ [j]).set j (some (f i))) H' S)
    (hd : ∀ (E : Addr) (H' : Hp) (acc : List V) (xs : List PyData), Go m H H' → H E = none → H' E = some (.lst acc) → DpAll K (vw (m.add E) H') acc xs → xs.length = n → (∀ i x, xs[i]? = some x → R i x) → Q (.ref E) H') :
    lcK (gName j) tYes te [j] σ Q J H := by
  refine r_lcG (n := n) (fun E i H' => Go m H H' ∧ ∃ acc xs, H' E = some (.lst acc) ∧ DpAll K (vw (m.add E) H') acc xs ∧ xs.length = i ∧ ∀ k x, xs[k]? = some x → R k x) (fun E hE => ?_) (fun E i H' hE hi p => hg i H' hi p.1.vw) (fun E H' hE p => hz H' p.1.vw) (fun E i x H' H2 hE hi p y => ?_) (fun E H' hE p => ?_)
  · exact ⟨(Go.refl hm).mut hm hE, [], [], upd_same, .nil, rfl, fun k x h => nomatch h⟩
  · obtain ⟨rfl, rfl⟩ := hy i H' x H2 hi p.1.vw y
    obtain ⟨g, acc, xs, e, da, hl, hR⟩ := p
    refine r_gName (r_wk wipe_set (r_yesT (r_ck1 ?_)))
    have okE : Ok (m.add E) H2 := g.ok.add (by rw [e]; intro z; cases z)
    refine hs E i H2 _ hi g okE (g.old hE) fun v H3 x g3 dx rx => ?_
    have offE : m.off E := hm.off hE
    have e3 : H3 E = some (.lst acc) := g3.at (m := m.add E) offE e
    refine r_ap e3 (by rw [dpa_len da, hl]; omega) ⟨(g.trans g3.sub).mut hm hE, acc ++ [v], xs ++ [x], upd_same, ?_, by simp [hl], fun k y hk => ?_⟩
    · rw [vw_addupd]
      exact dpa_app (da.mv g3.vw) (.cons dx .nil)
    · by_cases c : k < xs.length
      · rw [List.getElem?_append_left c] at hk
        exact hR k y hk
      · rw [List.getElem?_append_right (by omega)] at hk
        have : k - xs.length = 0 := by
          cases w : k - xs.length with
          | zero => rfl
          | succ t => rw [w] at hk; exact nomatch hk
        rw [this] at hk
        cases hk
        have : k = i := by omega
        rw [this]
        exact rx
  · obtain ⟨g, acc, xs, e, da, hl, hR⟩ := p
    exact hd E H' acc xs g hE e da hl hR
theorem r_lcVR (m : Md) (hm : Ok m H) {lo : Int} (hn : n ≤ 1000) (R : Nat → PyData → Prop)
    (hs : ∀ (E : Addr) (i : Nat) (H' : Hp) (S : VK), i < n → Go m H H' → Ok (m.add E) H' → Same (vw m H) (vw (m.add E) H') → (∀ v H2 x, Go (m.add E) H' H2 → Dp K (vw (m.add E) H2) v x → R i x → S v H2) → te ((wipe σ [j]).set j (some (.int (lo + i)))) H' S)
    (hd : ∀ (E : Addr) (H' : Hp) (acc : List V) (xs : List PyData), Go m H H' → H E = none → H' E = some (.lst acc) → DpAll K (vw (m.add E) H') acc xs → xs.length = n → (∀ i x, xs[i]? = some x → R i x) → Q (.ref E) H') :
    lcK (gName j) tYes te [j] σ Q (Itr lo n) H :=
  r_lcV m hm (fun i => .int (lo + i)) hn R (fun i H' hi _ => hi) (fun H' _ => Nat.le_refl _) (fun i H' x H2 _ _ y => ⟨y.2, y.1⟩) hs hd
theorem r_lcVL (m : Md) (hm : Ok m H) {a : Addr} {vs : List V} (ha : SqL K (vw m H) a vs) (hn : vs.length ≤ 1000) (R : Nat → PyData → Prop)
    (hs : ∀ (E : Addr) (i : Nat) (v0 : V) (H' : Hp) (S : VK), vs[i]? = some v0 → Go m H H' → Ok (m.add E) H' → Same (vw m H) (vw (m.add E) H') → (∀ v H2 x, Go (m.add E) H' H2 → Dp K (vw (m.add E) H2) v x → R i x → S v H2) → te ((wipe σ [j]).set j (some v0)) H' S)
    (hd : ∀ (E : Addr) (H' : Hp) (acc : List V) (xs : List PyData), Go m H H' → H E = none → H' E = some (.lst acc) → DpAll K (vw (m.add E) H') acc xs → xs.length = vs.length → (∀ i x, xs[i]? = some x → R i x) → Q (.ref E) H') :
    lcK (gName j) tYes te [j] σ Q (Itl K a) H :=
  r_lcV m hm (fun i => vs.getD i .non) hn R (fun i H' hi e => ⟨vs, _, seqL_same (e.trans vw_sub) ha, List.getElem?_eq_getElem hi⟩) (fun H' e => ⟨vs, seqL_same (e.trans vw_sub) ha, Nat.le_refl _⟩)
    (fun i H' x H2 hi e y => ⟨by
      have z := y.2 vs (seqL_same (e.trans vw_sub) ha)
      show x = (vs[i]?).getD V.non
      rw [z]; rfl, y.1⟩)
    (fun E i H' S hi g o e k => hs E i _ H' S (by show vs[i]? = some ((vs[i]?).getD V.non); rw [List.getElem?_eq_getElem hi]; rfl) g o e k) hd
theorem r_lcVT (m : Md) (hm : Ok m H) {a : Addr} {vs : List V} (ha : SqT K (vw m H) a vs) (hn : vs.length ≤ 1000) (R : Nat → PyData → Prop)
    (hs : ∀ (E : Addr) (i : Nat) (v0 : V) (H' : Hp) (S : VK), vs[i]? = some v0 → Go m H H' → Ok (m.add E) H' → Same (vw m H) (vw (m.add E) H') → (∀ v H2 x, Go (m.add E) H' H2 → Dp K (vw (m.add E) H2) v x → R i x → S v H2) → te ((wipe σ [j]).set j (some v0)) H' S)
    (hd : ∀ (E : Addr) (H' : Hp) (acc : List V) (xs : List PyData), Go m H H' → H E = none → H' E = some (.lst acc) → DpAll K (vw (m.add E) H') acc xs → xs.length = vs.length → (∀ i x, xs[i]? = some x → R i x) → Q (.ref E) H') :
    lcK (gName j) tYes te [j] σ Q (Itt K a) H :=
  r_lcV m hm (fun i => vs.getD i .non) hn R (fun i H' hi e => ⟨vs, _, seqT_same (e.trans vw_sub) ha, List.getElem?_eq_getElem hi⟩) (fun H' e => ⟨vs, seqT_same (e.trans vw_sub) ha, Nat.le_refl _⟩)
    (fun i H' x H2 hi e y => ⟨by
      have z := y.2 vs (seqT_same (e.trans vw_sub) ha)
      show x = (vs[i]?).getD V.non
      rw [z]; rfl, y.1⟩)
    (fun E i H' S hi g o e k => hs E i _ H' S (by show vs[i]? = some ((vs[i]?).getD V.non); rw [List.getElem?_eq_getElem hi]; rfl) g o e k) hd
end
end VC

/-! VC2: lines, chains; common divisors, shares -/
namespace VC
open PySem PySem.Spec PyProof.Rows L2 VB VZ
structure Ch where
  sg : Str
  st : List Int
  sp : List (List Int)
  tl : List (List Int)
def chD (c : Ch) : PyData := .tuple [.str c.sg, lnD c.st, mtD c.sp, mtD c.tl]
/-- so many weights, none below 0, of so many bits, not all 0 -/
structure Lin (b n : Nat) (ns : List Int) : Prop where
  len : ns.length = n
  bd : ∀ x ∈ ns, 0 ≤ x ∧ Bd b x
  sum : 0 < ns.sum
structure Mtx (b r n : Nat) (ls : List (List Int)) : Prop where
  len : ls.length = r
  lin : ∀ l ∈ ls, Lin b n l
/-- ascending small letters -/
structure Sgs (k : Nat) (z : Str) : Prop where
  len : z.cps.toList.length = k
  let_ : ∀ c ∈ z.cps.toList, 97 ≤ c ∧ c ≤ 122
  asc : z.cps.toList.Pairwise (· < ·)
structure ChOk (b n k : Nat) (c : Ch) : Prop where
  n1 : 1 ≤ n
  n6 : n ≤ 6
  k1 : 1 ≤ k
  k5 : k ≤ 5
  sg : Sgs k c.sg
  st : Lin b n c.st
  sp : Mtx b n n c.sp
  tl : Mtx b n k c.tl
theorem Lin.mono {b b' n : Nat} {ns : List Int} (h : Lin b n ns) (e : b ≤ b') : Lin b' n ns := ⟨h.len, fun x hx => ⟨(h.bd x hx).1, (h.bd x hx).2.mono e⟩, h.sum⟩
theorem Mtx.mono {b b' r n : Nat} {ls : List (List Int)} (h : Mtx b r n ls) (e : b ≤ b') : Mtx b' r n ls := ⟨h.len, fun l hl => (h.lin l hl).mono e⟩
theorem ChOk.mono {b b' n k : Nat} {c : Ch} (h : ChOk b n k c) (e : b ≤ b') : ChOk b' n k c := ⟨h.n1, h.n6, h.k1, h.k5, h.sg, h.st.mono e, h.sp.mono e, h.tl.mono e⟩
/-! ### common divisors of a line -/
def gcdF (g : Int) (ns : List Int) : Int := ns.foldl gcdI g
def gcdL (ns : List Int) : Int := gcdF 0 ns
def plL (ns : List Int) : List Int := ns.map fun x => x.fdiv (gcdL ns)
def plC (c : Ch) : Ch := ⟨c.sg, plL c.st, c.sp.map plL, c.tl.map plL⟩
theorem gcdI_nn (a b : Int) : 0 ≤ gcdI a b := Int.natCast_nonneg _
theorem gcdI_dl (a b : Int) : gcdI a b ∣ a := Int.natAbs_dvd_natAbs.mp (by unfold gcdI; rw [Int.natAbs_natCast]; exact Nat.gcd_dvd_left _ _)
theorem gcdI_dr (a b : Int) : gcdI a b ∣ b := Int.natAbs_dvd_natAbs.mp (by unfold gcdI; rw [Int.natAbs_natCast]; exact Nat.gcd_dvd_right _ _)
theorem gcdI_mul (a b k : Int) (hk : 0 < k) : gcdI (a * k) (b * k) = gcdI a b * k := by
  unfold gcdI
  rw [Int.natAbs_mul, Int.natAbs_mul, Nat.gcd_mul_right, Int.natCast_mul]
  have : (k.natAbs : Int) = k := by omega
  rw [this]
theorem gcdF_nn : ∀ (ns : List Int) (g : Int), 0 ≤ g → 0 ≤ gcdF g ns
  | [], g, h => h
  | x :: r, g, h => gcdF_nn r _ (gcdI_nn g x)
theorem gcdF_dvd : ∀ (ns : List Int) (g : Int), gcdF g ns ∣ g ∧ ∀ x ∈ ns, gcdF g ns ∣ x
  | [], g => ⟨Int.dvd_refl _, fun x h => nomatch h⟩
  | y :: r, g => by
    obtain ⟨h1, h2⟩ := gcdF_dvd r (gcdI g y)
    refine ⟨Int.dvd_trans h1 (gcdI_dl g y), fun x hx => ?_⟩
    rcases List.mem_cons.mp hx with rfl | hx
    · exact Int.dvd_trans h1 (gcdI_dr g x)
    · exact h2 x hx
theorem gcdF_mul (k : Int) (hk : 0 < k) : ∀ (ns : List Int) (g : Int), gcdF (g * k) (ns.map (· * k)) = gcdF g ns * k
  | [], g => rfl
  | y :: r, g => by
    show gcdF (gcdI (g * k) (y * k)) (r.map (· * k)) = gcdF (gcdI g y) r * k
    rw [gcdI_mul _ _ _ hk]
    exact gcdF_mul k hk r _
theorem gcdL_mul (ns : List Int) {k : Int} (hk : 0 < k) : gcdL (ns.map (· * k)) = gcdL ns * k := by
  have := gcdF_mul k hk ns 0
  rw [Int.zero_mul] at this
  exact this
theorem gcdL_dvd {ns : List Int} {x : Int} (h : x ∈ ns) : gcdL ns ∣ x := (gcdF_dvd ns 0).2 x h
theorem dvd_sum {d : Int} : ∀ {ns : List Int}, (∀ x ∈ ns, d ∣ x) → d ∣ ns.sum
  | [], _ => Int.dvd_zero d
  | x :: r, h => by
    rw [List.sum_cons]
    exact Int.dvd_add (h x (by simp)) (dvd_sum fun y hy => h y (by simp [hy]))
theorem gcdL_pos {ns : List Int} (h : 0 < ns.sum) : 0 < gcdL ns := by
  have h0 : 0 ≤ gcdL ns := gcdF_nn ns 0 (Int.le_refl _)
  have h1 : gcdL ns ∣ ns.sum := dvd_sum fun x hx => gcdL_dvd hx
  by_cases z : gcdL ns = 0
  · rw [z] at h1
    have := Int.zero_dvd.mp h1
    omega
  · omega
theorem plL_back {ns : List Int} : (plL ns).map (· * gcdL ns) = ns := by
  unfold plL
  rw [List.map_map]
  conv => rhs; rw [← List.map_id ns]
  exact List.map_congr_left fun x hx => Int.fdiv_mul_cancel (gcdL_dvd hx)
theorem sum_mul (k : Int) : ∀ ns : List Int, (ns.map (· * k)).sum = ns.sum * k
  | [] => (Int.zero_mul k).symm
  | x :: r => by rw [List.map_cons, List.sum_cons, List.sum_cons, sum_mul k r, Int.add_mul]
theorem pos_of_mul {a k : Int} (hk : 0 < k) (h : 0 < a * k) : 0 < a := by
  refine Classical.byContradiction fun z => ?_
  have : a * k ≤ 0 := by
    have := Int.mul_le_mul_of_nonneg_right (show a ≤ 0 by omega) (Int.le_of_lt hk)
    rw [Int.zero_mul] at this
    exact this
  omega
theorem plL_sum {ns : List Int} (h : 0 < ns.sum) : 0 < (plL ns).sum := by
  have e := sum_mul (gcdL ns) (plL ns)
  rw [plL_back] at e
  rw [e] at h
  exact pos_of_mul (gcdL_pos (ns := ns) (by rw [e]; exact h)) h
theorem plL_mul {ns : List Int} (h : 0 < ns.sum) {k : Int} (hk : 0 < k) : plL (ns.map (· * k)) = plL ns := by
  have g0 := gcdL_pos h
  unfold plL
  rw [gcdL_mul ns hk, List.map_map]
  refine List.map_congr_left fun x hx => ?_
  show (x * k).fdiv (gcdL ns * k) = x.fdiv (gcdL ns)
  obtain ⟨q, rfl⟩ := gcdL_dvd hx
  rw [Int.mul_fdiv_cancel_left _ (by omega), show gcdL ns * q * k = (gcdL ns * k) * q by rw [Int.mul_assoc, Int.mul_comm q k, Int.mul_assoc], Int.mul_fdiv_cancel_left _ (Int.mul_ne_zero (by omega) (by omega))]
theorem plL_idem {ns : List Int} (h : 0 < ns.sum) : plL (plL ns) = plL ns := by
  have z := plL_mul (plL_sum h) (gcdL_pos h)
  rw [plL_back] at z
  exact z.symm
theorem fdiv_le {x g : Int} (h : 0 ≤ x) (hg : 0 < g) (d : g ∣ x) : 0 ≤ x.fdiv g ∧ (x.fdiv g).natAbs ≤ x.natAbs := ⟨fdiv_nn h (by omega), fdiv_abs d (by omega)⟩
theorem plL_lin {b n : Nat} {ns : List Int} (h : Lin b n ns) : Lin b n (plL ns) := by
  refine ⟨by unfold plL; rw [List.length_map]; exact h.len, fun x hx => ?_, plL_sum h.sum⟩
  obtain ⟨y, hy, rfl⟩ := List.mem_map.mp hx
  have z := fdiv_le (h.bd y hy).1 (gcdL_pos h.sum) (gcdL_dvd hy)
  exact ⟨z.1, (h.bd y hy).2.of_le z.2⟩
theorem plL_mtx {b r n : Nat} {ls : List (List Int)} (h : Mtx b r n ls) : Mtx b r n (ls.map plL) := by
  refine ⟨by rw [List.length_map]; exact h.len, fun l hl => ?_⟩
  obtain ⟨y, hy, rfl⟩ := List.mem_map.mp hl
  exact plL_lin (h.lin y hy)
theorem plC_ok {b n k : Nat} {c : Ch} (h : ChOk b n k c) : ChOk b n k (plC c) := ⟨h.n1, h.n6, h.k1, h.k5, h.sg, plL_lin h.st, plL_mtx h.sp, plL_mtx h.tl⟩
theorem plC_idem {b n k : Nat} {c : Ch} (h : ChOk b n k c) : plC (plC c) = plC c := by
  unfold plC
  have m : ∀ {r n : Nat} {ls : List (List Int)}, Mtx b r n ls → (ls.map plL).map plL = ls.map plL := fun hm => by
    rw [List.map_map]
    exact List.map_congr_left fun l hl => plL_idem (hm.lin l hl).sum
  rw [plL_idem h.st.sum, m h.sp, m h.tl]
/-! ### lines of the same shares -/
def LEq (a b : List Int) : Prop := ∃ i j : Int, 0 < i ∧ 0 < j ∧ a.map (· * i) = b.map (· * j)
structure MEq (A B : List (List Int)) : Prop where
  len : A.length = B.length
  eq : ∀ (i : Nat) (x y : List Int), A[i]? = some x → B[i]? = some y → LEq x y
structure CEq (c e : Ch) : Prop where
  sg : c.sg = e.sg
  st : LEq c.st e.st
  sp : MEq c.sp e.sp
  tl : MEq c.tl e.tl
theorem LEq.refl (a : List Int) : LEq a a := ⟨1, 1, by decide, by decide, rfl⟩
theorem MEq.refl (A : List (List Int)) : MEq A A := ⟨rfl, fun i x y h1 h2 => by rw [h1] at h2; cases h2; exact .refl _⟩
theorem CEq.refl (c : Ch) : CEq c c := ⟨rfl, .refl _, .refl _, .refl _⟩
theorem leq_mul (a : List Int) {k : Int} (hk : 0 < k) : LEq (a.map (· * k)) a := ⟨1, k, by decide, hk, by rw [List.map_map]; exact List.map_congr_left fun x _ => by show x * k * 1 = x * k; rw [Int.mul_one]⟩
theorem leq_pl {a : List Int} (h : 0 < a.sum) : LEq a (plL a) := ⟨1, gcdL a, by decide, gcdL_pos h, by rw [plL_back]; conv => rhs; rw [← List.map_id a]
                                                                                                       exact List.map_congr_left fun x _ => Int.mul_one x⟩
theorem LEq.trans {a b c : List Int} (h : LEq a b) (k : LEq b c) : LEq a c := by
  obtain ⟨i, j, hi, hj, e⟩ := h
  obtain ⟨i', j', hi', hj', e'⟩ := k
  refine ⟨i * i', j * j', Int.mul_pos hi hi', Int.mul_pos hj hj', ?_⟩
  have m : ∀ (l : List Int) (p q : Int), l.map (· * (p * q)) = (l.map (· * p)).map (· * q) := fun l p q => by
    rw [List.map_map]
    exact List.map_congr_left fun x _ => (Int.mul_assoc x p q).symm
  rw [m, e, ← m, Int.mul_comm j i', m, e', ← m, Int.mul_comm j' j]
theorem low_mul (a b k : Int) (hk : 0 < k) (hb : 0 < b) : lowA (a * k) (b * k) = lowA a b ∧ lowB (a * k) (b * k) = lowB a b := by
  have hbk : 0 < b * k := Int.mul_pos hb hk
  have e1 : comI (a * k) (b * k) = comI a b * k := by
    unfold comI
    rw [if_neg (by omega), if_neg (by omega), gcdI_mul _ _ _ hk]
  have c0 : comI a b ≠ 0 := comI_ne (by omega)
  have f : ∀ x, comI a b ∣ x → (x * k).fdiv (comI a b * k) = x.fdiv (comI a b) := fun x ⟨q, hq⟩ => by
    rw [hq, Int.mul_fdiv_cancel_left _ c0, show comI a b * q * k = (comI a b * k) * q by rw [Int.mul_assoc, Int.mul_comm q k, Int.mul_assoc], Int.mul_fdiv_cancel_left _ (Int.mul_ne_zero c0 (by omega))]
  unfold lowA lowB
  rw [e1]
  exact ⟨f a (comI_dvd a b).1, f b (comI_dvd a b).2⟩
theorem leq_low {a b : List Int} (h : LEq a b) (ha : 0 < a.sum) (hb : 0 < b.sum) {i : Nat} {x y : Int} (hx : a[i]? = some x) (hy : b[i]? = some y) :
    lowA x a.sum = lowA y b.sum ∧ lowB x a.sum = lowB y b.sum := by
  obtain ⟨p, q, hp, hq, e⟩ := h
  have es := congrArg List.sum e
  rw [sum_mul, sum_mul] at es
  have ex := congrArg (fun l => l[i]?) e
  simp only [List.getElem?_map, hx, hy, Option.map_some, Option.some.injEq] at ex
  have z1 := low_mul x a.sum p hp ha
  have z2 := low_mul y b.sum q hq hb
  rw [ex, es] at z1
  exact ⟨z1.1.symm.trans z2.1, z1.2.symm.trans z2.2⟩
end VC

/-! VC3: more readings; signs; promises of drawn chains -/
namespace VC
open PySem PySem.Spec PyProof.Rows L2 VB VZ
section
variable {σ : L2.St} {H : Hp} {D : Ends} {v x y : V} {ta tb tc te : TE} {ts : TA} {Q : VK} {r r' : R2} {K : PySem.W.Frag} {m : Md}
def chK (r' : R2) (tc : TE) (σ : L2.St) (y : V) (Q : VK) : VK := fun z H3 => ∃ k, z = .bl k ∧ if k = true then tc σ H3 fun w H4 => r' y w H4 Q else Q (.bl false) H3
theorem r_chain (h : ta σ H fun x H1 => tb σ H1 fun y H2 => r x y H2 (chK r' tc σ y Q)) : tChain r r' ta tb tc σ H Q := h
theorem r_chk {b : Bool} (h1 : b = true → tc σ H fun w H4 => r' y w H4 Q) (h2 : b = false → Q (.bl false) H) : chK r' tc σ y Q (.bl b) H := ⟨b, rfl, by
  cases b with
  | true => exact h1 rfl
  | false => exact h2 rfl⟩
def mK1 (f : V → List V → Hp → VK → Prop) (te : TE) (σ : L2.St) (Q : VK) : VK := fun x H1 => (∃ a, x = .str a) ∧ te σ H1 fun y H2 => f x [y] H2 Q
theorem r_m1 {f : V → List V → Hp → VK → Prop} (h : ta σ H (mK1 f te σ Q)) : tM1 f ta te σ H Q := h
theorem r_mk1 {f : V → List V → Hp → VK → Prop} {z : Str} (h : te σ H fun y H2 => f (.str z) [y] H2 Q) : mK1 f te σ Q (.str z) H := ⟨⟨z, rfl⟩, h⟩
theorem r_gsub {t : TSet} {RS : L2.St → Hp → Prop} (h : ta σ H fun o H1 => tb σ H1 fun i H2 => t o i v H2 fun H3 => RS σ H3) : gSub ta tb t v σ H RS := h
theorem ixN_n {n j : Nat} (h : j < n) : ixN n (j : Int) = some j := by
  unfold ixN
  rw [if_pos (by omega), if_pos (by omega)]
  rfl
theorem r_setL {p : Addr} {xs : List V} {k : Nat} {S : Hp → Prop} (h : H p = some (.lst xs)) (hk : k < xs.length) (q : S (upd H p (.lst (xs.set k v)))) : rSetL (.ref p) (.int (k : Int)) v H S :=
  ⟨p, xs, _, k, rfl, rfl, h, ixN_n hk, q⟩
theorem r_popAt {l : Addr} {xs : List V} {k : Nat} (h : H l = some (.lst xs)) (hk : k < xs.length) (hn : xs.length ≤ 1000) (q : Q xs[k] (upd H l (.lst (xs.eraseIdx k)))) : rPopAt (.ref l) [.int (k : Int)] H Q :=
  ⟨l, xs, _, k, _, rfl, rfl, h, by omega, by omega, PySem.seqIndex_of (by omega) (by omega), List.getElem?_eq_getElem hk, q⟩
theorem r_sumT {a : Addr} {ns : List Int} (h : SqL K H a (ns.map V.int) ∨ SqT K H a (ns.map V.int)) (q : Q (.int ns.sum) H) : rSumT K [.ref a] H Q := ⟨a, ns, rfl, h, q⟩
theorem r_all {a : Addr} {bs : List Bool} (h : SqL K H a (bs.map V.bl)) (q : Q (.bl (bs.all id)) H) : rAll K [.ref a] H Q := ⟨a, bs, rfl, h, q⟩
theorem r_slT {a : Addr} {xs : List V} {lo hi : Option Int} (h : SqT K H a xs) (q : rSlT K (.ref a) lo hi H Q) : rSlT K (.ref a) lo hi H Q := q
theorem r_isi {x : V} {a b : String} {k : Bool} (h : TyX K H x (.type a)) (e : kitB a b = some k) (q : Q (.bl k) H) : rIsi K [x, .ty b] H Q := ⟨x, _, _, _, k, rfl, .ty b, h, kit_ty e, q⟩
theorem log_small {n : Int} (h0 : 0 ≤ n) (h : n < 4294967296) : n.natAbs.log2 < 9000 := log2_small (by omega)
end
/-! ### signs -/
def sg1 (c : Nat) : Str := ⟨#[c]⟩
theorem join_cps : ∀ (cs : List Nat), (Txt.join (⟨#[]⟩ : Str) (cs.map sg1)).cps.toList = cs := by
  intro cs
  show ((List.drop 1 (cs.map sg1)).foldl (fun acc p => acc ++ (⟨#[]⟩ : Str).cps ++ p.cps) ((cs.map sg1).headD Str.empty).cps).toList = cs
  cases cs with
  | nil => rfl
  | cons c r =>
    have g : ∀ (r : List Nat) (a : Array Nat), ((r.map sg1).foldl (fun acc p => acc ++ (⟨#[]⟩ : Str).cps ++ p.cps) a).toList = a.toList ++ r := by
      intro r
      induction r with
      | nil => intro a; simp
      | cons x t ih =>
        intro a
        rw [List.map_cons, List.foldl_cons, ih]
        simp [sg1]
    exact g r _
theorem lt_sg1 {a b : Nat} : ltCps (sg1 a).cps.toList (sg1 b).cps.toList = false → b ≤ a := by
  intro h
  show b ≤ a
  refine Classical.byContradiction fun z => ?_
  have : ltCps [a] [b] = true := by simp [ltCps]; omega
  have e : ltCps [a] [b] = false := h
  rw [e] at this
  cases this
theorem rising_pw : ∀ (l : List Nat) (p : Nat), risingS (sg1 p) (l.map sg1) = true → (p :: l).Pairwise (· ≤ ·)
  | [], p, _ => by simp
  | x :: r, p, h => by
    have h' : (!ltCps (sg1 x).cps.toList (sg1 p).cps.toList && risingS (sg1 x) (r.map sg1)) = true := h
    simp only [Bool.and_eq_true, Bool.not_eq_true'] at h'
    have px : p ≤ x := lt_sg1 h'.1
    have ih := rising_pw r x h'.2
    refine List.pairwise_cons.mpr ⟨fun y hy => ?_, ih⟩
    rcases List.mem_cons.mp hy with rfl | hy
    · exact px
    · exact Nat.le_trans px ((List.pairwise_cons.mp ih).1 y hy)
theorem sorted_pw {l : List Nat} (h : sortedS (l.map sg1) = true) : l.Pairwise (· ≤ ·) := by
  cases l with
  | nil => exact .nil
  | cons p r => exact rising_pw r p h
def pool : List Nat := [97, 98, 99, 100, 101, 109, 120, 121, 122]
/-- sorted, of the pool, each once -/
theorem pool_sgs {l cs : List Nat} {k : Nat} (hp : l.Perm pool) (hk : k ≤ 9) (hc : cs.Perm (l.take k)) (hs : sortedS (cs.map sg1) = true) : Sgs k (Txt.join (⟨#[]⟩ : Str) (cs.map sg1)) := by
  have ll : l.length = 9 := hp.length_eq
  have mem : ∀ c ∈ cs, c ∈ pool := fun c h => hp.mem_iff.mp (List.mem_of_mem_take (hc.mem_iff.mp h))
  have nd : cs.Nodup := hc.nodup_iff.mpr ((hp.nodup_iff.mpr (by decide)).sublist (List.take_sublist _ _))
  refine ⟨by rw [join_cps, hc.length_eq, List.length_take, ll]; omega, fun c h => ?_, ?_⟩
  · rw [join_cps] at h
    have := mem c h
    revert this
    have : ∀ c ∈ pool, 97 ≤ c ∧ c ≤ 122 := by decide
    exact this c
  · rw [join_cps]
    have pw := sorted_pw hs
    have pw2 := pw.and nd
    exact pw2.imp fun {a b} h => Nat.lt_of_le_of_ne h.1 h.2
theorem erase_perm : ∀ {l : List V} {k : Nat} (h : k < l.length), (l[k] :: l.eraseIdx k).Perm l
  | x :: r, 0, _ => .refl _
  | x :: r, k + 1, h => by
    have h' : k < r.length := Nat.lt_of_succ_lt_succ h
    show (r[k] :: x :: r.eraseIdx k).Perm (x :: r)
    exact (List.Perm.swap x r[k] _).trans ((erase_perm h').cons x)
theorem ints_of {Pz : Int → Prop} : ∀ xs : List PyData, (∀ x ∈ xs, ∃ z : Int, x = .int z ∧ Pz z) → ∃ ns : List Int, xs = ns.map PyData.int ∧ ∀ z ∈ ns, Pz z
  | [], _ => ⟨[], rfl, fun z h => nomatch h⟩
  | x :: r, h => by
    obtain ⟨z, rfl, hz⟩ := h x (by simp)
    obtain ⟨ns, rfl, hn⟩ := ints_of r fun y hy => h y (by simp [hy])
    exact ⟨z :: ns, rfl, fun y hy => (List.mem_cons.mp hy).elim (fun e => e ▸ hz) (hn y)⟩
theorem bd_small32 {r : Int} (h0 : 0 ≤ r) (h : r < 4294967296) : Bd 32 r := by
  show r.natAbs < 2 ^ 32
  omega
theorem sum_nn : ∀ {ns : List Int}, (∀ x ∈ ns, 0 ≤ x) → 0 ≤ ns.sum
  | [], _ => Int.le_refl _
  | x :: r, h => by
    rw [List.sum_cons]
    have := h x (by simp)
    have := sum_nn (ns := r) fun y hy => h y (by simp [hy])
    omega
theorem sum_pos {x : Int} : ∀ {ns : List Int}, (∀ x ∈ ns, 0 ≤ x) → x ∈ ns → 0 < x → 0 < ns.sum
  | y :: r, h, hx, hp => by
    rw [List.sum_cons]
    have h0 := h y (by simp)
    have h1 := sum_nn (ns := r) fun y hy => h y (by simp [hy])
    rcases List.mem_cons.mp hx with rfl | hx
    · omega
    · have := sum_pos (ns := r) (fun y hy => h y (by simp [hy])) hx hp
      omega
theorem r_fin {σ : L2.St} {H : Hp} {D : Ends} {c : TT} {t u : TS} (J : L2.St → Hp → Prop) (hJ : ∀ σ H, J σ H → D.nx σ H) (h : (∀ σ H, J σ H → D.nx σ H) → tIfS c t u D σ H) : tIfS c t u D σ H := h hJ
theorem cut_take (xs : List V) (n : Nat) : cutV xs none (some (n : Int)) = xs.take n := by
  unfold cutV
  rw [HT.sIx_none, show HT.sIx xs.length xs.length (some (n : Int)) = min n xs.length from HT.sIx_nat _ _ n, List.drop_zero, Nat.sub_zero]
  by_cases h : n ≤ xs.length
  · rw [Nat.min_eq_left h]
  · rw [Nat.min_eq_right (by omega), List.take_of_length_le (Nat.le_refl _), List.take_of_length_le (by omega)]
def sgN : V → Nat
  | .str z => z.cps.toList.headD 0
  | _ => 0
def sgV (c : Nat) : V := .str (sg1 c)
theorem perm_sg {ys : List V} {l : List Nat} (h : ys.Perm (l.map sgV)) : ∃ cs : List Nat, ys = cs.map sgV ∧ cs.Perm l := by
  refine ⟨ys.map sgN, ?_, ?_⟩
  · rw [List.map_map]
    conv => lhs; rw [← List.map_id ys]
    refine List.map_congr_left fun y hy => ?_
    obtain ⟨c, _, rfl⟩ := List.mem_map.mp (h.mem_iff.mp hy)
    rfl
  · have := h.map sgN
    rw [List.map_map] at this
    have e : (sgN ∘ sgV) = id := rfl
    rw [e, List.map_id] at this
    exact this
theorem perm_sgS {ys : List Str} {l : List Nat} (h : ys.Perm (l.map sg1)) : ∃ cs : List Nat, ys = cs.map sg1 ∧ cs.Perm l := by
  obtain ⟨cs, e, p⟩ := perm_sg (ys := ys.map V.str) (l := l) (by have := h.map V.str; rw [List.map_map] at this; exact this)
  refine ⟨cs, ?_, p⟩
  have e2 : ys.map V.str = (cs.map sg1).map V.str := by rw [e, List.map_map]; rfl
  exact List.map_inj_right (fun a b h => V.str.inj h) |>.mp e2
theorem join_len (cs : List Nat) : ((cs.map sg1).map (·.length)).sum = cs.length := by
  induction cs with
  | nil => rfl
  | cons c r ih => rw [List.map_cons, List.map_cons, List.sum_cons, ih, List.length_cons]; show 1 + r.length = r.length + 1; omega
theorem lins_of {b n : Nat} : ∀ xs : List PyData, (∀ x ∈ xs, ∃ ns : List Int, x = lnD ns ∧ Lin b n ns) → ∃ ls : List (List Int), xs = ls.map lnD ∧ ∀ l ∈ ls, Lin b n l
  | [], _ => ⟨[], rfl, fun z h => nomatch h⟩
  | x :: r, h => by
    obtain ⟨ns, rfl, hz⟩ := h x (by simp)
    obtain ⟨ls, rfl, hn⟩ := lins_of r fun y hy => h y (by simp [hy])
    exact ⟨ns :: ls, rfl, fun y hy => (List.mem_cons.mp hy).elim (fun e => e ▸ hz) (hn y)⟩
theorem mtx_of {b r n : Nat} {xs : List PyData} (hl : xs.length = r) (h : ∀ (i : Nat) (x : PyData), xs[i]? = some x → ∃ ns : List Int, x = lnD ns ∧ Lin b n ns) : ∃ ls : List (List Int), xs = ls.map lnD ∧ Mtx b r n ls := by
  obtain ⟨ls, rfl, hn⟩ := lins_of xs fun x hx => by
    obtain ⟨i, hi⟩ := List.getElem?_of_mem hx
    exact h i x hi
  exact ⟨ls, rfl, ⟨by rw [← hl, List.length_map], hn⟩⟩
theorem dpa_set {K : PySem.W.Frag} {H : Hp} : ∀ {vs : List V} {ds : List PyData} {k : Nat} {v : V} {d : PyData}, DpAll K H vs ds → Dp K H v d → DpAll K H (vs.set k v) (ds.set k d)
  | _, _, _, _, _, .nil, _ => .nil
  | _, _, 0, _, _, .cons _ t, h => .cons h t
  | _, _, k + 1, _, _, .cons a t, h => .cons a (dpa_set (k := k) t h)
theorem mtx_set {b r n : Nat} {ls : List (List Int)} {k : Nat} {l : List Int} (h : Mtx b r n ls) (hl : Lin b n l) : Mtx b r n (ls.set k l) :=
  ⟨by rw [List.length_set]; exact h.len, fun x hx => (List.mem_or_eq_of_mem_set hx).elim (h.lin x) fun e => e ▸ hl⟩
theorem tup_done {m : Md} {K : PySem.W.Frag} {E p : Addr} {H' : Hp} {acc : List V} {xs : List PyData} (ok : Ok m H') (hp : H' p = none) (da : DpAll K (vw (m.add E) H') acc xs) : Dp K (vw m (upd H' p (.tup acc))) (.ref p) (.tuple xs) :=
  .tup (SqT.of (vw_new ok hp)) ((da.mv vw_addsub).mv (Go.new ok hp).vw)
/-- a chain's parts -/
theorem dp_chain {K : PySem.W.Frag} {H : Hp} {v : V} {c : Ch} (h : Dp K H v (chD c)) : ∃ p v1 v2 v3, v = .ref p ∧ SqT K H p [.str c.sg, v1, v2, v3] ∧ Dp K H v1 (lnD c.st) ∧ Dp K H v2 (mtD c.sp) ∧ Dp K H v3 (mtD c.tl) := by
  obtain ⟨p, xs, rfl, hs, ha⟩ := dp_tup h
  cases ha with
  | cons h0 ha =>
    cases ha with
    | cons h1 ha =>
      cases ha with
      | cons h2 ha =>
        cases ha with
        | cons h3 ha =>
          cases ha
          rw [dp_str h0] at hs
          exact ⟨p, _, _, _, rfl, hs, h1, h2, h3⟩
theorem chain_dp {K : PySem.W.Frag} {H : Hp} {p : Addr} {z : Str} {v1 v2 v3 : V} {ns : List Int} {a b : List (List Int)} (hs : SqT K H p [.str z, v1, v2, v3]) (h1 : Dp K H v1 (lnD ns)) (h2 : Dp K H v2 (mtD a)) (h3 : Dp K H v3 (mtD b)) : Dp K H (.ref p) (chD ⟨z, ns, a, b⟩) :=
  .tup hs (.cons (.str _) (.cons h1 (.cons h2 (.cons h3 .nil))))
/-- lines made from lines, one by one -/
theorem lines_by {f : List Int → List Int} {ls : List (List Int)} {xs : List PyData} (hl : xs.length = ls.length) (h : ∀ (i : Nat) (x : PyData), xs[i]? = some x → ∃ l, ls[i]? = some l ∧ x = lnD (f l)) : xs = (ls.map f).map lnD := by
  refine List.ext_getElem? fun i => ?_
  cases e : xs[i]? with
  | none =>
    have : xs.length ≤ i := List.getElem?_eq_none_iff.mp e
    rw [List.getElem?_map, List.getElem?_map, List.getElem?_eq_none_iff.mpr (by omega)]
    rfl
  | some x =>
    obtain ⟨l, hl, rfl⟩ := h i x e
    rw [List.getElem?_map, List.getElem?_map, hl]
    rfl
theorem mul_lin {b n : Nat} {ns : List Int} (h : Lin b n ns) {k : Int} (h0 : 0 < k) (h1 : k < 2 ^ 30) : Lin (b + 30) n (ns.map (· * k)) := by
  refine ⟨by rw [List.length_map]; exact h.len, fun x hx => ?_, by rw [sum_mul]; exact Int.mul_pos h.sum h0⟩
  obtain ⟨y, hy, rfl⟩ := List.mem_map.mp hx
  refine ⟨Int.mul_nonneg (h.bd y hy).1 (by omega), (h.bd y hy).2.mul ?_⟩
  show k.natAbs < 2 ^ 30
  omega
/-- lines multiplied one by one -/
theorem many_of {b r n : Nat} {ls : List (List Int)} (hm : Mtx b r n ls) {xs : List PyData} (hl : xs.length = ls.length) (h : ∀ (i : Nat) (x : PyData), xs[i]? = some x → ∃ l k, ls[i]? = some l ∧ x = lnD (l.map (· * k)) ∧ 0 < k ∧ k < 2 ^ 30) :
    ∃ es : List (List Int), xs = es.map lnD ∧ Mtx (b + 30) r n es ∧ MEq es ls ∧ es.map plL = ls.map plL := by
  obtain ⟨es, rfl, he⟩ : ∃ es : List (List Int), xs = es.map lnD ∧ es.length = ls.length ∧ ∀ (i : Nat) (e : List Int), es[i]? = some e → ∃ l k, ls[i]? = some l ∧ e = l.map (· * k) ∧ 0 < k ∧ k < 2 ^ 30 := by
    clear hm
    induction xs generalizing ls with
    | nil => exact ⟨[], rfl, hl, fun i e z => nomatch z⟩
    | cons x t ih =>
      cases ls with
      | nil => cases hl
      | cons l0 lt =>
        obtain ⟨l, k, hl0, rfl, h0, h1⟩ := h 0 x rfl
        obtain ⟨es, rfl, e1, e2⟩ := ih (ls := lt) (Nat.succ.inj hl) fun i x hx => h (i + 1) x hx
        refine ⟨l.map (· * k) :: es, rfl, congrArg (· + 1) e1, fun i e z => ?_⟩
        cases i with
        | zero => cases z; exact ⟨l, k, hl0, rfl, h0, h1⟩
        | succ i => exact e2 i e z
  obtain ⟨e1, e2⟩ := he
  refine ⟨es, rfl, ⟨by rw [e1]; exact hm.len, fun l hl => ?_⟩, ⟨e1, fun i x y hx hy => ?_⟩, ?_⟩
  · obtain ⟨i, hi⟩ := List.getElem?_of_mem hl
    obtain ⟨l', k, hl', rfl, h0, h1⟩ := e2 i l hi
    exact mul_lin (hm.lin l' (List.mem_of_getElem? hl')) h0 h1
  · obtain ⟨l', k, hl', rfl, h0, h1⟩ := e2 i x hx
    rw [hy] at hl'
    cases hl'
    exact leq_mul _ h0
  · refine List.ext_getElem? fun i => ?_
    rw [List.getElem?_map, List.getElem?_map]
    cases e : es[i]? with
    | none =>
      have : es.length ≤ i := List.getElem?_eq_none_iff.mp e
      rw [List.getElem?_eq_none_iff.mpr (by omega)]
    | some x =>
      obtain ⟨l', k, hl', rfl, h0, h1⟩ := e2 i x e
      rw [hl']
      show some _ = some _
      rw [plL_mul (hm.lin l' (List.mem_of_getElem? hl')).sum h0]
theorem gcdF_step (g : Int) (ns : List Int) (i : Nat) (x : Int) (h : ns[i]? = some x) : gcdI (gcdF g (ns.take i)) x = gcdF g (ns.take (i + 1)) := by
  rw [List.take_add_one, h]
  unfold gcdF
  rw [List.foldl_append]
  rfl
/-! ### promises -/
def spShuf (K : PySem.W.Frag) : Sp := fun vs H Q _ => ∃ (m : Md) (d l q : Addr) (xs : List V), vs = [.ref d, .ref q] ∧ m.dk = some (d, l) ∧ Ok m H ∧ SqL K (vw m H) q xs ∧ xs.length ≤ 100 ∧
  ∀ p H' ys, Go m H H' → vw m H' p = some (.lst ys) → ys.Perm xs → Q (.ref p) H'
def spLine (K : PySem.W.Frag) : Sp := fun vs H Q _ => ∃ (m : Md) (d l : Addr) (n : Nat), vs = [.ref d, .int (n : Int)] ∧ m.dk = some (d, l) ∧ Ok m H ∧ 1 ≤ n ∧ n ≤ 6 ∧
  ∀ v H' ns, Go m H H' → Dp K (vw m H') v (lnD ns) → Lin 32 n ns → Q v H'
def spChain (K : PySem.W.Frag) : Sp := fun vs H Q _ => ∃ (m : Md) (d l : Addr) (n k : Nat), vs = [.ref d, .int (n : Int), .int (k : Int)] ∧ m.dk = some (d, l) ∧ Ok m H ∧ 1 ≤ n ∧ n ≤ 6 ∧ 1 ≤ k ∧ k ≤ 5 ∧
  ∀ v H' c, Go m H H' → Dp K (vw m H') v (chD c) → ChOk 32 n k c → Q v H'
def spBy (K : PySem.W.Frag) : Sp := fun vs H Q _ => ∃ (m : Md) (d l : Addr) (v : V) (ns : List Int) (b n : Nat), vs = [.ref d, v] ∧ m.dk = some (d, l) ∧ Ok m H ∧ Dp K (vw m H) v (lnD ns) ∧ Lin b n ns ∧ n ≤ 6 ∧ b ≤ 2000 ∧
  ∀ v H' k, Go m H H' → 0 < k → k < 2 ^ 30 → Dp K (vw m H') v (lnD (ns.map (· * k))) → Q v H'
def spManyBy (K : PySem.W.Frag) : Sp := fun vs H Q _ => ∃ (m : Md) (d l : Addr) (v : V) (c : Ch) (b n k : Nat), vs = [.ref d, v] ∧ m.dk = some (d, l) ∧ Ok m H ∧ Dp K (vw m H) v (chD c) ∧ ChOk b n k c ∧ b ≤ 2000 ∧
  ∀ v H' e, Go m H H' → Dp K (vw m H') v (chD e) → ChOk (b + 30) n k e → CEq e c → plC e = plC c → Q v H'
def spWide (K : PySem.W.Frag) : Sp := fun vs H Q _ => ∃ (m : Md) (d l : Addr) (v : V) (c : Ch) (n k : Nat), vs = [.ref d, v] ∧ m.dk = some (d, l) ∧ Ok m H ∧ Dp K (vw m H) v (chD c) ∧ ChOk 1400 n k c ∧
  ∀ v H' e, Go m H H' → Dp K (vw m H') v (chD e) → ChOk 1400 n k e → Q v H'
def spLnPl (K : PySem.W.Frag) : Sp := fun vs H Q _ => ∃ (m : Md) (v : V) (ns : List Int) (b n : Nat), vs = [v] ∧ Ok m H ∧ Dp K (vw m H) v (lnD ns) ∧ Lin b n ns ∧ n ≤ 6 ∧ b ≤ 2000 ∧
  ∀ r H', Go m H H' → Dp K (vw m H') r (lnD (plL ns)) → Q r H'
def spMtPl (K : PySem.W.Frag) : Sp := fun vs H Q _ => ∃ (m : Md) (v : V) (ls : List (List Int)) (b r n : Nat), vs = [v] ∧ Ok m H ∧ Dp K (vw m H) v (mtD ls) ∧ Mtx b r n ls ∧ r ≤ 6 ∧ n ≤ 6 ∧ b ≤ 2000 ∧
  ∀ r H', Go m H H' → Dp K (vw m H') r (mtD (ls.map plL)) → Q r H'
def spPlain (K : PySem.W.Frag) : Sp := fun vs H Q _ => ∃ (m : Md) (v : V) (c : Ch) (b n k : Nat), vs = [v] ∧ Ok m H ∧ Dp K (vw m H) v (chD c) ∧ ChOk b n k c ∧ b ≤ 2000 ∧
  ∀ r H', Go m H H' → Dp K (vw m H') r (chD (plC c)) → Q r H'
/-- shares: of a line's place -/
def shD (x s : Int) : PyData := .tuple [.int (lowA x s), .int (lowB x s)]
def spShare (K : PySem.W.Frag) : Sp := fun vs H Q _ => ∃ (m : Md) (v : V) (ns : List Int) (b n i : Nat) (x : Int), vs = [v, .int (i : Int)] ∧ Ok m H ∧ Dp K (vw m H) v (lnD ns) ∧ Lin b n ns ∧ n ≤ 6 ∧ b ≤ 2000 ∧ ns[i]? = some x ∧
  ∀ r H', Go m H H' → Dp K (vw m H') r (shD x ns.sum) → Q r H'
def spStart (K : PySem.W.Frag) : Sp := fun vs H Q _ => ∃ (m : Md) (v : V) (c : Ch) (b n k i : Nat) (x : Int), vs = [v, .int (i : Int)] ∧ Ok m H ∧ Dp K (vw m H) v (chD c) ∧ ChOk b n k c ∧ b ≤ 2000 ∧ c.st[i]? = some x ∧
  ∀ r H', Go m H H' → Dp K (vw m H') r (shD x c.st.sum) → Q r H'
def spStep (K : PySem.W.Frag) : Sp := fun vs H Q _ => ∃ (m : Md) (v : V) (c : Ch) (b n k i j : Nat) (l : List Int) (x : Int), vs = [v, .int (i : Int), .int (j : Int)] ∧ Ok m H ∧ Dp K (vw m H) v (chD c) ∧ ChOk b n k c ∧ b ≤ 2000 ∧ c.sp[i]? = some l ∧ l[j]? = some x ∧
  ∀ r H', Go m H H' → Dp K (vw m H') r (shD x l.sum) → Q r H'
def spTell (K : PySem.W.Frag) : Sp := fun vs H Q _ => ∃ (m : Md) (v : V) (c : Ch) (b n k i j g : Nat) (l : List Int) (x : Int), vs = [v, .int (i : Int), .str (sg1 g)] ∧ Ok m H ∧ Dp K (vw m H) v (chD c) ∧ ChOk b n k c ∧ b ≤ 2000 ∧ c.tl[i]? = some l ∧ c.sg.cps.toList[j]? = some g ∧ l[j]? = some x ∧
  ∀ r H', Go m H H' → Dp K (vw m H') r (shD x l.sum) → Q r H'
/-- a chain of the package: nothing is wrong -/
def spNoErr (K : PySem.W.Frag) : Sp := fun vs H Q _ => ∃ (m : Md) (v : V) (c : Ch) (b n k : Nat), vs = [v] ∧ Ok m H ∧ Dp K (vw m H) v (chD c) ∧ ChOk b n k c ∧
  ∀ H', Go m H H' → Q .non H'
def spAreShares (K : PySem.W.Frag) : Sp := fun vs H Q _ => ∃ (m : Md) (d l : Addr) (v u : V) (c e : Ch) (b n k : Nat), vs = [.ref d, v, u] ∧ m.dk = some (d, l) ∧ Ok m H ∧ Dp K (vw m H) v (chD c) ∧ Dp K (vw m H) u (chD e) ∧ ChOk b n k c ∧ ChOk b n k e ∧ b ≤ 1500 ∧ CEq c e ∧
  ∀ H', Go m H H' → Q (.bl true) H'
theorem one_pl {K : PySem.W.Frag} {b r N : Nat} {ls : List (List Int)} {ws : List V} {m : Md} {H0 : Hp} (hm : Mtx b r N ls) (hN : N ≤ 6) (hb : b ≤ 2000) (da : DpAll K (vw m H0) ws (ls.map lnD)) {i : Nat} {v0 : V} {H' : Hp} {E' : Addr} {S : VK} (hi : ws[i]? = some v0) (okE : Ok (m.add E') H') (old : Same (vw m H0) (vw (m.add E') H'))
    (kq : ∀ v H2 x, Go (m.add E') H' H2 → Dp K (vw (m.add E') H2) v x → (∃ l, ls[i]? = some l ∧ x = lnD (plL l)) → S v H2) : spLnPl K [v0] H' S E0 := by
  obtain ⟨x, hx, dx⟩ := dpa_get da hi
  rw [List.getElem?_map] at hx
  cases e : ls[i]? with
  | none => rw [e] at hx; cases hx
  | some l0 =>
    rw [e] at hx
    cases hx
    exact ⟨m.add E', v0, l0, b, N, rfl, okE, dx.mv old, hm.lin l0 (List.mem_of_getElem? e), hN, hb, fun v H2 g' dv => kq v H2 _ g' dv ⟨l0, e, rfl⟩⟩
theorem gcd_log {b n : Nat} {ns : List Int} (h : Lin b n ns) (hb : b ≤ 2000) : (gcdL ns).natAbs.log2 < 9000 := by
  have g0 := gcdL_pos h.sum
  obtain ⟨x, hx, x0⟩ : ∃ x ∈ ns, x ≠ 0 := by
    refine Classical.byContradiction fun z => ?_
    have : ∀ l : List Int, (∀ x ∈ l, x = 0) → l.sum = 0 := by
      intro l
      induction l with
      | nil => intro _; rfl
      | cons y t ih => intro hz; rw [List.sum_cons, hz y (by simp), ih fun x hx => hz x (by simp [hx])]; rfl
    have := this ns fun x hx => Classical.byContradiction fun y => z ⟨x, hx, y⟩
    have := h.sum
    omega
  have d := gcdL_dvd hx
  have le : (gcdL ns).natAbs ≤ x.natAbs := Nat.le_of_dvd (by omega) (Int.natAbs_dvd_natAbs.mpr d)
  exact Bd.log (k := 2000) (((h.bd x hx).2.mono hb).of_le le) (by decide) (by decide)
theorem idx_sg {z : Str} {j g : Nat} (nd : z.cps.toList.Pairwise (· < ·)) (h : z.cps.toList[j]? = some g) : ∃ r, Builtin.Str.occurrences z (sg1 g) 0 z.length 1 = j :: r := by
  have at_ : ∀ i, StrLaws.At z (sg1 g) z.length i ↔ z.cps.toList[i]? = some g := fun i => StrLaws.subAt_one z g i
  rcases StrLaws.occ_head z (sg1 g) 1 (Nat.le_refl _) with ⟨_, h2⟩ | ⟨i, r, h1, h2, h3⟩
  · exact absurd ((at_ j).mpr h) (h2 j)
  · have hi := (at_ i).mp h2
    have : i = j := by
      have hi' := hi
      refine Classical.byContradiction fun ne => ?_
      have li := (List.getElem?_eq_some_iff.mp hi')
      have lj := (List.getElem?_eq_some_iff.mp h)
      obtain ⟨li, ei⟩ := li
      obtain ⟨lj, ej⟩ := lj
      rcases Nat.lt_or_gt_of_ne ne with q | q
      · have := List.pairwise_iff_getElem.mp nd i j li lj q
        rw [ei, ej] at this
        exact Nat.lt_irrefl _ this
      · have := List.pairwise_iff_getElem.mp nd j i lj li q
        rw [ei, ej] at this
        exact Nat.lt_irrefl _ this
    subst this
    exact ⟨r, h1⟩
theorem sum_le {B : Int} : ∀ {ns : List Int}, (∀ x ∈ ns, 0 ≤ x ∧ x ≤ B) → ns.sum ≤ ns.length * B
  | [], _ => by simp
  | x :: r, h => by
    have h1 := (h x (by simp)).2
    have h2 := sum_le (ns := r) fun y hy => h y (by simp [hy])
    rw [List.sum_cons, List.length_cons, Int.natCast_add, Int.add_mul]
    omega
theorem lin_sum {b n : Nat} {ns : List Int} (h : Lin b n ns) (hn : n ≤ 6) : Bd (b + 3) ns.sum := by
  have z := sum_le (B := (2 : Int) ^ b) (ns := ns) fun x hx => by
    obtain ⟨h0, h1⟩ := h.bd x hx
    refine ⟨h0, ?_⟩
    have h1 : x.natAbs < 2 ^ b := h1
    have : ((2 ^ b : Nat) : Int) = (2 : Int) ^ b := by rw [Int.natCast_pow]; rfl
    omega
  rw [h.len] at z
  have s0 := h.sum
  show ns.sum.natAbs < 2 ^ (b + 3)
  have e : ((2 ^ b : Nat) : Int) = (2 : Int) ^ b := by rw [Int.natCast_pow]; rfl
  have p : 0 < 2 ^ b := Nat.two_pow_pos b
  rw [Nat.pow_add]
  have z2 : (n : Int) * (2 : Int) ^ b ≤ 6 * (2 : Int) ^ b := Int.mul_le_mul_of_nonneg_right (by omega) (by omega)
  omega
end VC

/-! VC4: bools, texts walked; promises about what chains are -/
namespace VC
open PySem PySem.Spec PyProof.Rows L2 VB VZ
section
variable {σ : L2.St} {H : Hp} {D : Ends} {v x y : V} {ta tb tc te : TE} {ts : TA} {Q : VK} {r r' : R2} {K : PySem.W.Frag} {m : Md} {j : Nat}
theorem dp_bool {b : Bool} (h : Dp K H v (.bool b)) : v = .bl b := by cases h; rfl
theorem dpa_bools : ∀ {bs : List Bool} {vs : List V}, DpAll K H vs (bs.map PyData.bool) → vs = bs.map V.bl
  | [], _, h => by cases h; rfl
  | n :: r, _, h => by
    cases h with
    | cons h1 h2 =>
      rw [dp_bool h1, dpa_bools h2]
      rfl
theorem bools_by {n : Nat} {f : Nat → Bool} {xs : List PyData} (hl : xs.length = n) (h : ∀ (i : Nat) (x : PyData), xs[i]? = some x → x = .bool (f i)) : xs = ((List.range n).map f).map PyData.bool := by
  refine List.ext_getElem? fun i => ?_
  cases e : xs[i]? with
  | none =>
    have : xs.length ≤ i := List.getElem?_eq_none_iff.mp e
    rw [List.getElem?_map, List.getElem?_map, List.getElem?_eq_none_iff.mpr (by rw [List.length_range]; omega)]
    rfl
  | some x =>
    have lt := (List.getElem?_eq_some_iff.mp e).1
    rw [h i x e, List.getElem?_map, List.getElem?_map, List.getElem?_range (by omega)]
    rfl
def sK (R : It → Hp → Prop) : VK := fun v H => ∃ z, v = .str z ∧ R (Its z) H
theorem r_iS {R : It → Hp → Prop} (h : te σ H (sK R)) : iStr te σ H R := h
theorem r_sk {R : It → Hp → Prop} {z : Str} (h : R (Its z) H) : sK R (.str z) H := ⟨z, rfl, h⟩
theorem r_lcVS (m : Md) (hm : Ok m H) {z : Str} (hn : z.cps.toList.length ≤ 1000) (R : Nat → PyData → Prop)
    (hs : ∀ (E : Addr) (i : Nat) (c : Nat) (H' : Hp) (S : VK), z.cps.toList[i]? = some c → Go m H H' → Ok (m.add E) H' → Same (vw m H) (vw (m.add E) H') → (∀ v H2 x, Go (m.add E) H' H2 → Dp K (vw (m.add E) H2) v x → R i x → S v H2) → te ((wipe σ [j]).set j (some (.str (sg1 c)))) H' S)
    (hd : ∀ (E : Addr) (H' : Hp) (acc : List V) (xs : List PyData), Go m H H' → H E = none → H' E = some (.lst acc) → DpAll K (vw (m.add E) H') acc xs → xs.length = z.cps.toList.length → (∀ i x, xs[i]? = some x → R i x) → Q (.ref E) H') :
    lcK (gName j) tYes te [j] σ Q (Its z) H := by
  have sz : z.cps.toList.length = z.cps.size := by simp
  refine r_lcV m hm (fun i => .str (sg1 (z.cps.toList.getD i 0))) hn R (fun i H' hi e => ?_) (fun H' e => ?_) (fun i H' x H2 hi e y => ?_) (fun E i H' S hi g o e k => ?_) hd
  · show i < z.cps.size
    omega
  · show z.cps.size ≤ _
    omega
  · obtain ⟨e1, c, hc, rfl⟩ := y
    refine ⟨?_, e1⟩
    have : z.cps.toList[i]? = some c := by simpa using hc
    show V.str ⟨#[c]⟩ = .str (sg1 ((z.cps.toList[i]?).getD 0))
    rw [this]
    rfl
  · exact hs E i _ H' S (by show z.cps.toList[i]? = some ((z.cps.toList[i]?).getD 0); rw [List.getElem?_eq_getElem hi]; rfl) g o e k
end
def kinds7 : List String := ["NoneType", "bool", "int", "str", "list", "tuple", "dict"]
/-- is it an integer, and no bool -/
def spWhole (K : PySem.W.Frag) : Sp := fun vs H Q _ => ∃ (v : V) (t : String), vs = [v] ∧ TyX K H v (.type t) ∧ t ∈ kinds7 ∧ Q (.bl (t == "int")) H
def spIsLine0 (K : PySem.W.Frag) : Sp := fun vs H Q _ => ∃ (m : Md) (v : V) (ns : List Int) (b n : Nat), vs = [v] ∧ Ok m H ∧ Dp K (vw m H) v (lnD ns) ∧ Lin b n ns ∧ n ≤ 6 ∧ ∀ H', Go m H H' → Q (.bl true) H'
def spSigns0 : Sp := fun vs H Q _ => ∃ (m : Md) (z : Str) (k : Nat), vs = [.str z] ∧ Ok m H ∧ Sgs k z ∧ 1 ≤ k ∧ k ≤ 5 ∧ ∀ H', Go m H H' → Q (.bl true) H'
def spLines0 (K : PySem.W.Frag) : Sp := fun vs H Q _ => ∃ (m : Md) (v : V) (ls : List (List Int)) (b r n : Nat) (wd : Str), vs = [v, .str wd, .int (r : Int), .int (n : Int)] ∧ Ok m H ∧ Dp K (vw m H) v (mtD ls) ∧ Mtx b r n ls ∧ r ≤ 6 ∧ n ≤ 6 ∧ ∀ H', Go m H H' → Q .non H'
theorem whole_go {K : PySem.W.Frag} {H : Hp} {Q : VK} {v : V} {t : String} {σ : L2.St} {tb : TE} (ht : TyX K H v (.type t)) (hk : t ∈ kinds7) (k : Q (.bl (t == "int")) H)
    (hb : ∀ c : Bool, rIsi K [v, .ty "bool"] H (notV Q) → tb σ H Q) : rIsi K [v, .ty "int"] H (andV tb σ Q) := by
  have go : ∀ (a b : Bool), kitB t "int" = some a → kitB t "bool" = some b → (t == "int") = (a && !b) → rIsi K [v, .ty "int"] H (andV tb σ Q) := fun a b h1 h2 h3 => by
    refine r_isi ht h1 (r_av (fun c => hb true (r_isi ht h2 (r_nv ?_))) fun c => ?_)
    · rw [h3, c] at k
      exact k
    · rw [h3, c] at k
      exact k
  have hk' : t = "NoneType" ∨ t = "bool" ∨ t = "int" ∨ t = "str" ∨ t = "list" ∨ t = "tuple" ∨ t = "dict" := by simpa [kinds7] using hk
  rcases hk' with rfl | rfl | rfl | rfl | rfl | rfl | rfl
  · exact go false false (by decide +kernel) (by decide +kernel) (by decide +kernel)
  · exact go true true (by decide +kernel) (by decide +kernel) (by decide +kernel)
  · exact go true false (by decide +kernel) (by decide +kernel) (by decide +kernel)
  · exact go false false (by decide +kernel) (by decide +kernel) (by decide +kernel)
  · exact go false false (by decide +kernel) (by decide +kernel) (by decide +kernel)
  · exact go false false (by decide +kernel) (by decide +kernel) (by decide +kernel)
  · exact go false false (by decide +kernel) (by decide +kernel) (by decide +kernel)
theorem cutS_from (z : Str) (n : Nat) : (cutS z (some (n : Int)) none).cps.toList = z.cps.toList.drop n := by
  unfold cutS
  rw [HT.sIx_none, HT.sIx_nat]
  show List.take (z.length - min n z.length) (List.drop (min n z.length) z.cps.toList) = _
  have e : z.length = z.cps.toList.length := by simp [Str.length]
  by_cases h : n ≤ z.length
  · rw [Nat.min_eq_left h, List.take_of_length_le (by rw [List.length_drop]; omega)]
  · rw [Nat.min_eq_right (by omega), Nat.sub_self, List.take_zero, List.drop_eq_nil_of_le (by omega)]
theorem r_isN {x : V} {H : Hp} {Q : VK} (q : Q (.bl (decide (x = .non))) H) : (fun x y H Q => y = V.non ∧ Q (.bl (decide (x = .non))) H : R2) x .non H Q := ⟨rfl, q⟩
theorem sg_repr {k : Nat} {z : Str} (h : Sgs k z) (hk : k ≤ 5) : (reprText z).length ≤ 1000 := by
  have := StrLaws.reprText_len z fun c hc => by have := (h.let_ c hc).2; omega
  have e : z.length = z.cps.toList.length := by simp [Str.length]
  rw [e, h.len] at this
  omega
theorem fit_ch {b n k : Nat} {c : Ch} (h : ChOk b n k c) (hb : b ≤ 1900) : (chD c).showable = true ∧ (chD c).depth ≤ 3 ∧ wt (chD c) ≤ 170000 := by
  have hl : ∀ {n : Nat} {ns : List Int}, Lin b n ns → n ≤ 6 → (lnD ns).showable = true ∧ (lnD ns).depth ≤ 1 ∧ wt (lnD ns) ≤ 1923 * 6 + 3 := by
    intro n ns hl hn
    have sh : ∀ l : List Int, (∀ x ∈ l, Bd b x) → PyData.showableAll (l.map PyData.int) = true := by
      intro l
      induction l with
      | nil => intro _; rfl
      | cons x t ih => intro hx; show ((PyData.int x).showable && PyData.showableAll (t.map PyData.int)) = true; rw [sh_int (hx x (by simp)) (by omega), ih fun y hy => hx y (by simp [hy])]; rfl
    have wt_ : ∀ l : List Int, wtAll (l.map PyData.int) = 1923 * l.length := by
      intro l
      induction l with
      | nil => rfl
      | cons x t ih => show wt (.int x) + 2 + wtAll (t.map PyData.int) = _; rw [ih, List.length_cons]; show 1921 + 2 + 1923 * t.length = _; omega
    refine ⟨?_, ?_, ?_⟩
    · show (PyData.tuple (ns.map .int)).showable = true
      simp only [PyData.showable]
      exact sh ns fun x hx => (hl.bd x hx).2
    · show PyData.depth (.tuple (ns.map .int)) ≤ 1
      show PyData.depthAll (ns.map .int) + 1 ≤ 1
      rw [ints_depth]
      omega
    · show wtAll (ns.map .int) + 3 ≤ _
      rw [wt_, hl.len]
      omega
  have hm : ∀ {r n : Nat} {ls : List (List Int)}, Mtx b r n ls → r ≤ 6 → n ≤ 6 → (mtD ls).showable = true ∧ (mtD ls).depth ≤ 2 ∧ wt (mtD ls) ≤ 70000 := by
    intro r n ls hm hr hn
    have all : ∀ l : List (List Int), (∀ x ∈ l, Lin b n x) → PyData.showableAll (l.map lnD) = true ∧ PyData.depthAll (l.map lnD) ≤ 1 ∧ wtAll (l.map lnD) ≤ 11543 * l.length := by
      intro l
      induction l with
      | nil => intro _; exact ⟨rfl, Nat.zero_le _, Nat.le_refl _⟩
      | cons x t ih =>
        intro hx
        obtain ⟨a1, a2, a3⟩ := hl (hx x (by simp)) hn
        obtain ⟨b1, b2, b3⟩ := ih fun y hy => hx y (by simp [hy])
        refine ⟨?_, ?_, ?_⟩
        · show ((lnD x).showable && PyData.showableAll (t.map lnD)) = true
          rw [a1, b1]; rfl
        · show max (lnD x).depth (PyData.depthAll (t.map lnD)) ≤ 1
          omega
        · show wt (lnD x) + 2 + wtAll (t.map lnD) ≤ _
          rw [List.length_cons]
          omega
    obtain ⟨a1, a2, a3⟩ := all ls hm.lin
    have hlen := hm.len
    refine ⟨?_, ?_, ?_⟩
    · show (PyData.tuple (ls.map lnD)).showable = true
      simp only [PyData.showable]
      exact a1
    · show PyData.depthAll (ls.map lnD) + 1 ≤ 2
      omega
    · show wtAll (ls.map lnD) + 3 ≤ _
      have : ls.length ≤ 6 := by omega
      omega
  have k5 := h.k5
  obtain ⟨a1, a2, a3⟩ := hl h.st h.n6
  obtain ⟨b1, b2, b3⟩ := hm h.sp h.n6 h.n6
  obtain ⟨c1, c2, c3⟩ := hm h.tl h.n6 (by omega)
  have sl : (reprText c.sg).length ≤ 1000 := sg_repr h.sg h.k5
  refine ⟨?_, ?_, ?_⟩
  · show (PyData.tuple [.str c.sg, lnD c.st, mtD c.sp, mtD c.tl]).showable = true
    simp only [PyData.showable, PyData.showableAll]
    rw [a1, b1, c1]
    rfl
  · show max (PyData.depth (.str c.sg)) (max (lnD c.st).depth (max (mtD c.sp).depth (max (mtD c.tl).depth 0))) + 1 ≤ 3
    have : PyData.depth (.str c.sg) = 0 := rfl
    omega
  · show (reprText c.sg).length + 2 + (wt (lnD c.st) + 2 + (wt (mtD c.sp) + 2 + (wt (mtD c.tl) + 2 + 0))) + 3 ≤ _
    omega
theorem sh_fit {b k : Nat} {x s : Int} (hx : Bd b x) (hs : Bd k s) (h0 : s ≠ 0) (hb : b ≤ 1900) (hk : k ≤ 1900) : (shD x s).showable = true ∧ (shD x s).depth = 1 ∧ wt (shD x s) = 3849 := by
  have h1 : (PyData.int (lowA x s)).showable = true := sh_int (lowA_bd hx h0) (by omega)
  have h2 : (PyData.int (lowB x s)).showable = true := sh_int (lowB_bd hs h0) (by omega)
  refine ⟨?_, rfl, rfl⟩
  show (PyData.tuple [.int (lowA x s), .int (lowB x s)]).showable = true
  simp only [PyData.showable, PyData.showableAll] at h1 h2 ⊢
  rw [h1, h2]
  rfl
theorem fit_sh3 {x1 s1 x2 s2 x3 s3 : Int} (h1 : Bd 1500 x1) (k1 : Bd 1503 s1) (z1 : s1 ≠ 0) (h2 : Bd 1500 x2) (k2 : Bd 1503 s2) (z2 : s2 ≠ 0) (h3 : Bd 1500 x3) (k3 : Bd 1503 s3) (z3 : s3 ≠ 0) : Fit (.list [shD x1 s1, shD x2 s2, shD x3 s3]) := by
  obtain ⟨a1, a2, a3⟩ := sh_fit h1 k1 z1 (by decide) (by decide)
  obtain ⟨b1, b2, b3⟩ := sh_fit h2 k2 z2 (by decide) (by decide)
  obtain ⟨c1, c2, c3⟩ := sh_fit h3 k3 z3 (by decide) (by decide)
  refine ⟨?_, ?_, ?_⟩
  · simp only [PyData.showable, PyData.showableAll]
    rw [a1, b1, c1]
    rfl
  · show wt (shD x1 s1) + 2 + (wt (shD x2 s2) + 2 + (wt (shD x3 s3) + 2 + 0)) + 3 ≤ _
    omega
  · show max (shD x1 s1).depth (max (shD x2 s2).depth (max (shD x3 s3).depth 0)) + 1 < 60
    omega
theorem cut_mid (xs : List V) (a b : Nat) (hb : b ≤ xs.length) (hab : a ≤ b) : cutV xs (some (a : Int)) (some (b : Int)) = (xs.drop a).take (b - a) := by
  unfold cutV
  rw [HT.sIx_nat, HT.sIx_nat, Nat.min_eq_left hb, Nat.min_eq_left (Nat.le_trans hab hb)]
theorem cut_drop (xs : List V) (a : Nat) (ha : a ≤ xs.length) : cutV xs (some (a : Int)) none = xs.drop a := by
  unfold cutV
  rw [HT.sIx_nat, HT.sIx_none, Nat.min_eq_left ha, List.take_of_length_le (by rw [List.length_drop]; omega)]
theorem dpa_take {K : PySem.W.Frag} {H : Hp} : ∀ (n : Nat) {vs : List V} {ds : List PyData}, DpAll K H vs ds → DpAll K H (vs.take n) (ds.take n)
  | 0, _, _, _ => .nil
  | n + 1, _, _, .nil => .nil
  | n + 1, _, _, .cons a t => .cons a (dpa_take n t)
theorem dpa_drop {K : PySem.W.Frag} {H : Hp} : ∀ (n : Nat) {vs : List V} {ds : List PyData}, DpAll K H vs ds → DpAll K H (vs.drop n) (ds.drop n)
  | 0, _, _, h => h
  | n + 1, _, _, .nil => .nil
  | n + 1, _, _, .cons a t => dpa_drop n t
/-- lines of told lengths -/
theorem linesL {b : Nat} {len : Nat → Nat} {xs : List PyData} (h : ∀ (i : Nat) (x : PyData), xs[i]? = some x → ∃ ns : List Int, x = lnD ns ∧ Lin b (len i) ns) : ∃ L : List (List Int), xs = L.map lnD ∧ ∀ (i : Nat) (l : List Int), L[i]? = some l → Lin b (len i) l := by
  induction xs generalizing len with
  | nil => exact ⟨[], rfl, fun i l z => nomatch z⟩
  | cons x t ih =>
    obtain ⟨ns, rfl, hn⟩ := h 0 x rfl
    obtain ⟨L, rfl, hL⟩ := ih (len := fun i => len (i + 1)) fun i x hx => h (i + 1) x hx
    exact ⟨ns :: L, rfl, fun i l z => by
      cases i with
      | zero => cases z; exact hn
      | succ i => exact hL i l z⟩
theorem lin_set {b n j : Nat} {ns : List Int} {g : Int} (h : Lin b n ns) (h0 : 0 < g) (hg : Bd b g) (hj : j < n) : Lin b n (ns.set j g) := by
  refine ⟨by rw [List.length_set]; exact h.len, fun x hx => ?_, ?_⟩
  · rcases List.mem_or_eq_of_mem_set hx with z | rfl
    · exact h.bd x z
    · exact ⟨by omega, hg⟩
  · refine sum_pos (x := g) (fun x hx => ?_) (List.mem_iff_getElem?.mpr ⟨j, by rw [List.getElem?_set_self (by rw [h.len]; exact hj)]⟩) h0
    rcases List.mem_or_eq_of_mem_set hx with z | rfl
    · exact (h.bd x z).1
    · omega
theorem r_lenL {a : Addr} {xs : List V} {K : PySem.W.Frag} {H : Hp} {Q : VK} (h : SqL K H a xs) (q : Q (.int xs.length) H) : (fun xs H Q => ∃ x n, xs = [x] ∧ LenV K x H n ∧ Q (V.int n) H : List V → Hp → VK → Prop) [.ref a] H Q := ⟨.ref a, xs.length, rfl, .inl ⟨xs, h, rfl⟩, q⟩
theorem ints_inj {a b : List Int} (h : a.map V.int = b.map V.int) : a = b := List.map_inj_right (fun _ _ h => V.int.inj h) |>.mp h
abbrev rListOf (K : PySem.W.Frag) : List V → Hp → VK → Prop := fun xs H Q => ∃ p ys, xs = [.ref p] ∧ (SqL K H p ys ∨ SqT K H p ys) ∧ ∀ l, H l = none → Q (.ref l) (upd H l (.lst ys))
theorem cl_listOf {X : Cx} : CallR X (.type "list") (rListOf X.K) := call_list_of
abbrev rTupOf (K : PySem.W.Frag) : List V → Hp → VK → Prop := fun xs H Q => ∃ p ys, xs = [.ref p] ∧ ((SqL K H p ys ∧ ∀ l, H l = none → Q (.ref l) (upd H l (.tup ys))) ∨ (SqT K H p ys ∧ Q (.ref p) H))
theorem cl_tupOf {X : Cx} : CallR X (.type "tuple") (rTupOf X.K) := call_tuple_of
theorem r_finA {σ : L2.St} {H : Hp} {D : Ends} {te : TE} {i : Nat} (J : V → Hp → Prop) (hJ : ∀ x H, J x H → D.nx (σ.set i (some x)) H) (h : ∀ N : V → Hp → Prop, (∀ x H, J x H → N x H) → te σ H N) : tAsg te (gName i) D σ H := h _ hJ
theorem ne_refl (v : V) : (!decide (v = v)) = false := by rw [decide_eq_true rfl]; rfl
theorem not_ne {v : V} {G : Prop} (h : (!decide (v = v)) = true) : G := by rw [ne_refl] at h; cases h
theorem MEq.trans {A B C : List (List Int)} (h : MEq A B) (k : MEq B C) : MEq A C := by
  refine ⟨h.len.trans k.len, fun i x z hx hz => ?_⟩
  have hi := (List.getElem?_eq_some_iff.mp hx).1
  obtain ⟨y, hy⟩ : ∃ y, B[i]? = some y := ⟨_, List.getElem?_eq_getElem (by rw [← h.len]; exact hi)⟩
  exact (h.eq i x y hx hy).trans (k.eq i y z hy hz)
theorem CEq.trans {a b c : Ch} (h : CEq a b) (k : CEq b c) : CEq a c := ⟨h.sg.trans k.sg, h.st.trans k.st, h.sp.trans k.sp, h.tl.trans k.tl⟩
theorem meq_pl {b r n : Nat} {ls : List (List Int)} (h : Mtx b r n ls) : MEq ls (ls.map plL) := by
  refine ⟨by rw [List.length_map], fun i x y hx hy => ?_⟩
  rw [List.getElem?_map, hx] at hy
  cases hy
  exact leq_pl (h.lin x (List.mem_of_getElem? hx)).sum
theorem ceq_pl {b n k : Nat} {c : Ch} (h : ChOk b n k c) : CEq c (plC c) := ⟨rfl, leq_pl h.st.sum, meq_pl h.sp, meq_pl h.tl⟩
theorem fit_chs {b n k : Nat} : ∀ (cs : List Ch), cs.length ≤ 20 → (∀ c ∈ cs, ChOk b n k c) → b ≤ 1900 → Fit (.list (cs.map chD)) := by
  intro cs hl h hb
  have all : ∀ cs : List Ch, (∀ c ∈ cs, ChOk b n k c) → PyData.showableAll (cs.map chD) = true ∧ PyData.depthAll (cs.map chD) ≤ 3 ∧ wtAll (cs.map chD) ≤ 170002 * cs.length := by
    intro cs
    induction cs with
    | nil => intro _; exact ⟨rfl, Nat.zero_le _, Nat.le_refl _⟩
    | cons c t ih =>
      intro hc
      obtain ⟨a1, a2, a3⟩ := fit_ch (hc c (by simp)) hb
      obtain ⟨b1, b2, b3⟩ := ih fun x hx => hc x (by simp [hx])
      refine ⟨?_, ?_, ?_⟩
      · show ((chD c).showable && PyData.showableAll (t.map chD)) = true
        rw [a1, b1]; rfl
      · show max (chD c).depth (PyData.depthAll (t.map chD)) ≤ 3
        omega
      · show wt (chD c) + 2 + wtAll (t.map chD) ≤ _
        rw [List.length_cons]
        omega
  obtain ⟨a1, a2, a3⟩ := all cs h
  refine ⟨?_, ?_, ?_⟩
  · simp only [PyData.showable]
    exact a1
  · show wtAll (cs.map chD) + 3 ≤ _
    have : 170002 * cs.length ≤ 170002 * 20 := Nat.mul_le_mul_left _ hl
    omega
  · show PyData.depthAll (cs.map chD) + 1 < 60
    omega
theorem r_reprS {K : PySem.W.Frag} {v : V} {d : PyData} {H : Hp} {Q : VK} {S : Str} (e : S = d.shown) (h : Dp K H v d) (f : Fit d) (q : Q (.str S) H) : rRepr K [v] H Q := r_repr h f (e ▸ q)
end VC

/-! VC5: sums over all courses are parts along the view (integers alone) -/
namespace VC
def sumN (n : Nat) (f : Nat → Int) : Int := ((List.range n).map f).sum
theorem sum_map_add {α : Type} (f g : α → Int) : ∀ l : List α, (l.map fun x => f x + g x).sum = (l.map f).sum + (l.map g).sum
  | [] => rfl
  | x :: r => by
    simp only [List.map_cons, List.sum_cons]
    rw [sum_map_add f g r]
    omega
theorem sum_map_mul {α : Type} (k : Int) (f : α → Int) : ∀ l : List α, (l.map fun x => k * f x).sum = k * (l.map f).sum
  | [] => (Int.mul_zero k).symm
  | x :: r => by
    simp only [List.map_cons, List.sum_cons]
    rw [sum_map_mul k f r, Int.mul_add]
theorem sum_map_mulR {α : Type} (k : Int) (f : α → Int) (l : List α) : (l.map fun x => f x * k).sum = (l.map f).sum * k := by
  rw [Int.mul_comm, ← sum_map_mul]
  exact congrArg List.sum (List.map_congr_left fun x _ => Int.mul_comm _ _)
theorem sum_swap {α β : Type} (f : α → β → Int) (ys : List β) : ∀ xs : List α, (xs.map fun x => (ys.map (f x)).sum).sum = (ys.map fun y => (xs.map fun x => f x y).sum).sum
  | [] => by
    induction ys with
    | nil => rfl
    | cons y t ih => rw [List.map_cons, List.sum_cons, ← ih]; rfl
  | x :: r => by
    rw [List.map_cons, List.sum_cons, sum_swap f ys r, ← sum_map_add]
    rfl
theorem sum_flat {α : Type} (g : α → List (List Nat)) (W : List Nat → Int) : ∀ l : List α, ((l.flatMap g).map W).sum = (l.map fun x => ((g x).map W).sum).sum
  | [] => rfl
  | x :: r => by
    rw [List.flatMap_cons, List.map_append, List.sum_append, sum_flat g W r]
    rfl
/-- all courses of so many places, ascending -/
def courses (n : Nat) : Nat → List (List Nat)
  | 0 => [[]]
  | L + 1 => (courses n L).flatMap fun c => (List.range n).map fun u => c ++ [u]
section
variable (st : Nat → Int) (sp : Nat → Nat → Int) (tl : Nat → Option Nat → Int)
/-- a course's whole, read from its end: the view reversed, the course reversed -/
def wholeR : List (Option Nat) → List Nat → Int
  | o :: [], u :: [] => st u * tl u o
  | o :: v, u :: s :: c => wholeR v (s :: c) * (sp s u * tl u o)
  | _, _ => 1
/-- parts along a view (reversed): by the last state -/
def partsR (n : Nat) : List (Option Nat) → Nat → Int
  | [], _ => 1
  | o :: [], u => st u * tl u o
  | o :: v, u => sumN n (fun s => partsR n v s * sp s u) * tl u o
theorem sum_courses (n : Nat) : ∀ (v : List (Option Nat)) (o : Option Nat) (h : Nat → Int),
    ((courses n (v.length + 1)).map fun c => wholeR st sp tl (o :: v) c.reverse * h (c.reverse.headD 0)).sum = sumN n fun u => partsR st sp tl n (o :: v) u * h u
  | [], o, h => by
    show (([[]].flatMap fun c => (List.range n).map fun u => c ++ [u]).map _).sum = _
    simp only [List.flatMap_cons, List.flatMap_nil, List.append_nil, List.nil_append, List.map_map]
    rfl
  | o2 :: v, o, h => by
    have ih := sum_courses n v o2 fun s => sumN n fun u => sp s u * tl u o * h u
    show (((courses n (v.length + 1)).flatMap fun c => (List.range n).map fun u => c ++ [u]).map _).sum = _
    rw [sum_flat]
    have e1 : ∀ c ∈ courses n (v.length + 1), (((List.range n).map fun u => c ++ [u]).map fun c => wholeR st sp tl (o :: o2 :: v) c.reverse * h (c.reverse.headD 0)).sum =
        wholeR st sp tl (o2 :: v) c.reverse * sumN n fun u => sp (c.reverse.headD 0) u * tl u o * h u := by
      intro c hc
      unfold sumN
      rw [List.map_map, ← sum_map_mul]
      refine congrArg List.sum (List.map_congr_left fun u _ => ?_)
      show wholeR st sp tl (o :: o2 :: v) (c ++ [u]).reverse * h ((c ++ [u]).reverse.headD 0) = _
      rw [List.reverse_append]
      show wholeR st sp tl (o :: o2 :: v) (u :: c.reverse) * h u = _
      have ne : c.reverse ≠ [] := by
        intro z
        have z' : c = [] := List.reverse_eq_nil_iff.mp z
        subst z'
        obtain ⟨c', _, hc'⟩ := List.mem_flatMap.mp hc
        obtain ⟨u', _, hu'⟩ := List.mem_map.mp hc'
        exact absurd hu' (by simp)
      cases e : c.reverse with
      | nil => exact absurd e ne
      | cons s r =>
        show wholeR st sp tl (o2 :: v) (s :: r) * (sp s u * tl u o) * h u = wholeR st sp tl (o2 :: v) (s :: r) * (sp s u * tl u o * h u)
        rw [Int.mul_assoc]
    rw [List.map_congr_left e1, ih]
    unfold sumN
    have e2 : ∀ s ∈ List.range n, partsR st sp tl n (o2 :: v) s * ((List.range n).map fun u => sp s u * tl u o * h u).sum = ((List.range n).map fun u => partsR st sp tl n (o2 :: v) s * sp s u * (tl u o * h u)).sum := by
      intro s _
      rw [← sum_map_mul]
      refine congrArg List.sum (List.map_congr_left fun u _ => ?_)
      rw [Int.mul_assoc (sp s u), ← Int.mul_assoc]
    rw [List.map_congr_left e2, sum_swap]
    refine congrArg List.sum (List.map_congr_left fun u _ => ?_)
    rw [sum_map_mulR, ← Int.mul_assoc]
    rfl
end
/-! ### two ways to weigh, of the same shares -/
/-- a / A is b / B -/
def Cr (a A b B : Int) : Prop := a * B = b * A
theorem Cr.mul {a A b B c C d D : Int} (h : Cr a A b B) (k : Cr c C d D) : Cr (a * c) (A * C) (b * d) (B * D) := by
  unfold Cr at *
  have e1 : a * c * (B * D) = (a * B) * (c * D) := by simp only [Int.mul_assoc, Int.mul_left_comm, Int.mul_comm]
  have e2 : b * d * (A * C) = (b * A) * (d * C) := by simp only [Int.mul_assoc, Int.mul_left_comm, Int.mul_comm]
  rw [e1, e2, h, k]
theorem Cr.sum {n : Nat} {f g : Nat → Int} {A B : Int} (h : ∀ s, s < n → Cr (f s) A (g s) B) : Cr (sumN n f) A (sumN n g) B := by
  unfold Cr sumN
  rw [← sum_map_mulR, ← sum_map_mulR]
  exact congrArg List.sum (List.map_congr_left fun s hs => h s (List.mem_range.mp hs))
/-- fractions of one worth have one lowest form -/
theorem Cr.low {a A b B : Int} (h : Cr a A b B) (hA : 0 < A) (hB : 0 < B) : VB.lowA a A = VB.lowA b B ∧ VB.lowB a A = VB.lowB b B := by
  have z1 := low_mul a A B hB hA
  have z2 := low_mul b B A hA hB
  have h' : a * B = b * A := h
  rw [h', Int.mul_comm A B] at z1
  exact ⟨z1.1.symm.trans z2.1, z1.2.symm.trans z2.2⟩
theorem Cr.refl (a A : Int) : Cr a A a A := rfl
theorem Cr.symm {a A b B : Int} (h : Cr a A b B) : Cr b B a A := Eq.symm h
theorem Cr.trans {a A b B c C : Int} (h : Cr a A b B) (k : Cr b B c C) (hB : 0 < B) : Cr a A c C := by
  unfold Cr at *
  refine Int.eq_of_mul_eq_mul_right (a := B) (by omega) ?_
  have e1 : a * C * B = (a * B) * C := by simp only [Int.mul_assoc, Int.mul_left_comm, Int.mul_comm]
  have e2 : c * A * B = (c * B) * A := by simp only [Int.mul_assoc, Int.mul_left_comm, Int.mul_comm]
  rw [e1, e2, h, ← k]
  simp only [Int.mul_assoc, Int.mul_left_comm, Int.mul_comm]
/-- what the wholes along a view (reversed) are parts of -/
def underR (A0 A1 A2 : Int) : List (Option Nat) → Int
  | [] => 1
  | o :: [] => A0 * (if o = none then 1 else A2)
  | o :: v => underR A0 A1 A2 v * A1 * (if o = none then 1 else A2)
theorem underR_pos {A0 A1 A2 : Int} (h0 : 0 < A0) (h1 : 0 < A1) (h2 : 0 < A2) : ∀ v : List (Option Nat), 0 < underR A0 A1 A2 v
  | [] => by show (0 : Int) < 1; decide
  | o :: [] => by
    show 0 < A0 * (if o = none then 1 else A2)
    exact Int.mul_pos h0 (by split <;> omega)
  | o :: o2 :: v => by
    show 0 < underR A0 A1 A2 (o2 :: v) * A1 * (if o = none then 1 else A2)
    exact Int.mul_pos (Int.mul_pos (underR_pos h0 h1 h2 (o2 :: v)) h1) (by split <;> omega)
/-- parts of two systems of weights -/
theorem parts_cr {n : Nat} {st st' : Nat → Int} {sp sp' : Nat → Nat → Int} {tl tl' : Nat → Option Nat → Int} {A0 A1 A2 B0 B1 B2 : Int}
    (h0 : ∀ s, s < n → Cr (st s) A0 (st' s) B0) (h1 : ∀ s u, s < n → u < n → Cr (sp s u) A1 (sp' s u) B1) (h2 : ∀ u o, u < n → Cr (tl u o) (if o = none then 1 else A2) (tl' u o) (if o = none then 1 else B2)) :
    ∀ (v : List (Option Nat)) (u : Nat), u < n → Cr (partsR st sp tl n v u) (underR A0 A1 A2 v) (partsR st' sp' tl' n v u) (underR B0 B1 B2 v)
  | [], u, _ => .refl _ _
  | o :: [], u, hu => (h0 u hu).mul (h2 u o hu)
  | o :: o2 :: v, u, hu => by
    refine Cr.mul ?_ (h2 u o hu)
    exact Cr.sum fun s hs => (parts_cr h0 h1 h2 (o2 :: v) s hs).mul (h1 s u hs hu)
end VC

/-! VC6: lcm; lines of one sum -/
namespace VC
open PySem PySem.Spec PyProof.Rows L2 VB VZ
def lcmI (a b : Int) : Int := ((a.natAbs.lcm b.natAbs : Nat) : Int)
def rLcm : List V → Hp → VK → Prop := fun vs H Q => ∃ a b : Int, vs = [.int a, .int b] ∧ a.natAbs < 2 ^ 64 ∧ b.natAbs < 2 ^ 64 ∧ Q (.int (lcmI a b)) H
theorem cr_lcm {X : Cx} : CallR X (.builtin "math.lcm") rLcm := by
  intro pins s σ H vs us Q I r h
  obtain ⟨a, b, rfl, ha, hb, q⟩ := h
  obtain ⟨t, u, rfl⟩ := Vals.int2 r
  exact PySem.W.mc_lcm ha hb fun _ => ⟨.int _, H, I.tok _, ⟨_, rfl⟩, q⟩
/-- the least number that all sums of the lines divide -/
def lcmF (g : Int) (ls : List (List Int)) : Int := ls.foldl (fun g l => lcmI g l.sum) g
/-- the lines multiplied so that all have this sum -/
def evL (w : Int) (l : List Int) : List Int := l.map (· * w.fdiv l.sum)
def evM (ls : List (List Int)) : List (List Int) := ls.map (evL (lcmF 1 ls))
/-- lines of small sums -/
def Small (ls : List (List Int)) : Prop := ∀ l ∈ ls, 0 < l.sum ∧ l.sum ≤ 512
theorem lcmI_pos {a b : Int} (ha : 0 < a) (hb : 0 < b) : 0 < lcmI a b := by
  have := Nat.lcm_pos (m := a.natAbs) (n := b.natAbs) (by omega) (by omega)
  unfold lcmI
  omega
theorem lcmI_le {a b : Int} (ha : 0 < a) (hb : 0 < b) : lcmI a b ≤ a * b := by
  have := Nat.le_of_dvd (Nat.mul_pos (show 0 < a.natAbs by omega) (show 0 < b.natAbs by omega)) (Nat.lcm_dvd_mul a.natAbs b.natAbs)
  unfold lcmI
  have e : ((a.natAbs * b.natAbs : Nat) : Int) = a * b := by rw [Int.natCast_mul, Int.natAbs_of_nonneg (by omega), Int.natAbs_of_nonneg (by omega)]
  rw [← e]
  omega
theorem lcmI_dl (a b : Int) : a ∣ lcmI a b := Int.natAbs_dvd_natAbs.mp (by unfold lcmI; rw [Int.natAbs_natCast]; exact Nat.dvd_lcm_left _ _)
theorem lcmI_dr (a b : Int) : b ∣ lcmI a b := Int.natAbs_dvd_natAbs.mp (by unfold lcmI; rw [Int.natAbs_natCast]; exact Nat.dvd_lcm_right _ _)
theorem lcmF_step (g : Int) (ls : List (List Int)) (i : Nat) (l : List Int) (h : ls[i]? = some l) : lcmI (lcmF g (ls.take i)) l.sum = lcmF g (ls.take (i + 1)) := by
  rw [List.take_add_one, h]
  unfold lcmF
  rw [List.foldl_append]
  rfl
theorem lcmF_props : ∀ (ls : List (List Int)) (g : Int), Small ls → 0 < g → 0 < lcmF g ls ∧ lcmF g ls ≤ g * 512 ^ ls.length ∧ g ∣ lcmF g ls ∧ ∀ l ∈ ls, l.sum ∣ lcmF g ls
  | [], g, _, hg => ⟨hg, by show g ≤ g * 512 ^ 0; omega, Int.dvd_refl _, fun l h => nomatch h⟩
  | l :: r, g, h, hg => by
    obtain ⟨s0, s1⟩ := h l (by simp)
    have p := lcmI_pos hg s0
    obtain ⟨a1, a2, a3, a4⟩ := lcmF_props r (lcmI g l.sum) (fun x hx => h x (by simp [hx])) p
    refine ⟨a1, ?_, Int.dvd_trans (lcmI_dl _ _) a3, fun x hx => ?_⟩
    · have le := lcmI_le hg s0
      have le2 : g * l.sum ≤ g * 512 := Int.mul_le_mul_of_nonneg_left s1 (by omega)
      have p5 : (0 : Int) < 512 ^ r.length := Int.pow_pos (by decide)
      have le3 : lcmI g l.sum * 512 ^ r.length ≤ (g * 512) * 512 ^ r.length := Int.mul_le_mul_of_nonneg_right (by omega) (by omega)
      rw [List.length_cons, Int.pow_succ, Int.mul_comm (512 ^ r.length) 512, ← Int.mul_assoc]
      exact Int.le_trans a2 le3
    · rcases List.mem_cons.mp hx with rfl | hx
      · exact Int.dvd_trans (lcmI_dr _ _) a3
      · exact a4 x hx
theorem evL_sum {l : List Int} {w : Int} (h : l.sum ∣ w) : (evL w l).sum = w := by
  unfold evL
  rw [sum_mul, Int.mul_comm]
  exact Int.fdiv_mul_cancel h
theorem evL_len {l : List Int} {w : Int} : (evL w l).length = l.length := by unfold evL; rw [List.length_map]
def spMulLn (K : PySem.W.Frag) : Sp := fun vs H Q _ => ∃ (m : Md) (v : V) (ns : List Int) (f : Int), vs = [v, .int f] ∧ Ok m H ∧ Dp K (vw m H) v (lnD ns) ∧ ns.length ≤ 6 ∧ Bd 8000 f ∧ (∀ x ∈ ns, Bd 8000 x) ∧
  ∀ r H', Go m H H' → Dp K (vw m H') r (lnD (ns.map (· * f))) → Q r H'
def spEvM (K : PySem.W.Frag) : Sp := fun vs H Q _ => ∃ (m : Md) (v : V) (ls : List (List Int)) (b r n : Nat), vs = [v] ∧ Ok m H ∧ Dp K (vw m H) v (mtD ls) ∧ Mtx b r n ls ∧ r ≤ 6 ∧ n ≤ 6 ∧ b ≤ 2000 ∧ Small ls ∧
  ∀ r H', Go m H H' → Dp K (vw m H') r (mtD (evM ls)) → Q r H'
def evC (c : Ch) : Ch := ⟨c.sg, plL c.st, evM (c.sp.map plL), evM (c.tl.map plL)⟩
def spEvened (K : PySem.W.Frag) : Sp := fun vs H Q _ => ∃ (m : Md) (v : V) (c : Ch) (b n k : Nat), vs = [v] ∧ Ok m H ∧ Dp K (vw m H) v (chD c) ∧ ChOk b n k c ∧ b ≤ 2000 ∧ Small (c.sp.map plL) ∧ Small (c.tl.map plL) ∧
  ∀ r H', Go m H H' → Dp K (vw m H') r (chD (evC c)) → Q r H'
theorem ints_by {f : Int → Int} {ns : List Int} {xs : List PyData} (hl : xs.length = ns.length) (h : ∀ (i : Nat) (x : PyData), xs[i]? = some x → ∃ z, ns[i]? = some z ∧ x = .int (f z)) : xs = (ns.map f).map PyData.int := by
  refine List.ext_getElem? fun i => ?_
  cases e : xs[i]? with
  | none =>
    have : xs.length ≤ i := List.getElem?_eq_none_iff.mp e
    rw [List.getElem?_map, List.getElem?_map, List.getElem?_eq_none_iff.mpr (by omega)]
    rfl
  | some x =>
    obtain ⟨z, hz, rfl⟩ := h i x e
    rw [List.getElem?_map, List.getElem?_map, hz]
    rfl
theorem bd_pos {x : Int} {k : Nat} (h0 : 0 ≤ x) (h : x < 2 ^ k) : Bd k x := by
  show x.natAbs < 2 ^ k
  have e : ((2 ^ k : Nat) : Int) = (2 : Int) ^ k := by rw [Int.natCast_pow]; rfl
  omega
end VC

/-! VC7: range(n) as a value, walked -/
namespace VC
open PySem PySem.Spec PyProof.Rows L2 VB VZ
def rRange1 : List V → Hp → VK → Prop := fun vs H Q => ∃ j, vs = [V.int j] ∧ ∀ p, H p = none → Q (.ref p) (upd H p (.rng 0 j))
theorem cr_range1 {X : Cx} : CallR X (.type "range") rRange1 := by
  intro pins s σ H vs us Q I r h
  obtain ⟨j, rfl, q⟩ := h
  obtain ⟨u1, rfl, rj⟩ := vals1 r
  obtain ⟨t, rfl⟩ := rj
  refine call_range_1 ⟨.ref s.heap.objs.size, upd H s.heap.objs.size (.rng 0 j), I.laid (t' := s.toks + 2) (fun b o e => Heap.get?_push_of_some _ e) (Nat.le_refl _) ?_, rfl, q _ (I.hok.fresh (Nat.le_refl _))⟩
  exact ⟨_, _, _, Heap.get?_push_size _ rfl⟩
/-- a range that stands, walked -/
def gK3 (R : It → Hp → Prop) : VK := fun x H => ∃ (a : Addr) (j : Int), x = .ref a ∧ H a = some (.rng 0 j) ∧ -1000000 ≤ j ∧ j ≤ 1000000 ∧ R (Itr 0 j.toNat) H
def iRngV (te : TE) : TI := fun σ H R => te σ H (gK3 R)
theorem r_iRV {σ : L2.St} {H : Hp} {te : TE} {R : It → Hp → Prop} (h : te σ H (gK3 R)) : iRngV te σ H R := h
theorem pi_rngV {X : Cx} {tg l : Expr} {te : TE} (hl : PE X l te) : PI X tg l (iRngV te) := by
  refine ⟨fun pins s σ H R I h => ?_⟩
  refine thn (hl.run pins s σ H _ I h) fun v s1 ⟨x, H1, I1, r1, q1⟩ => ?_
  obtain ⟨a, j, e, hq, h1, h2, q⟩ := q1
  subst e
  cases r1
  obtain ⟨t, u, v, ho⟩ := (show ObjOk X.prog X.w H1 s1.heap a (.rng 0 j) from I1.hok a _ hq)
  refine wpAny_pyIter_range (show IsRange s1.heap a 0 j 1 t u v from ho) (small_one (by decide) (by decide) (by omega) (by omega)) ?_
  have I2 : Inv X pins σ H1 { s1 with heap := s1.heap.push { cls := .type "range_iterator", data := .fields #[rawInt 0, rawInt (Builtin.Range.rangeSize 0 j 1), rawInt 1] } } := I1.kept (t' := s1.toks) fun b o e => Heap.get?_push_of_some _ e
  refine ⟨s1.heap.objs.size, [s1.heap.objs.size], _, _, H1, rfl, I2, turn_range _ 0 j.toNat, ?_, fun b hb => ?_, q⟩
  · have e1 : (0 : Int) + ((0 : Nat) : Int) * 1 = 0 := by decide
    have e2 : ((j.toNat : Nat) : Int) - ((0 : Nat) : Int) = Builtin.Range.rangeSize 0 j 1 := by rw [rangeSize_one]; split <;> omega
    show IsRangeIter _ _ ((0 : Int) + ((0 : Nat) : Int) * 1) (((j.toNat : Nat) : Int) - ((0 : Nat) : Int)) 1
    rw [e1, e2]
    exact Heap.get?_push_size _ rfl
  · have e : b = s1.heap.objs.size := by simpa using hb
    subst e
    exact I1.fpOk (Nat.le_refl _) (I1.hok.fresh (Nat.le_refl _))
/-- parts: a list or a tuple of integers -/
def PL (K : PySem.W.Frag) (H : Hp) (v : V) (ns : List Int) : Prop := ∃ p, v = .ref p ∧ (SqL K H p (ns.map V.int) ∨ SqT K H p (ns.map V.int))
theorem PL.mv {K : PySem.W.Frag} {H H' : Hp} {v : V} {ns : List Int} (h : PL K H v ns) (e : Same H H') : PL K H' v ns := by
  obtain ⟨p, rfl, h | h⟩ := h
  · exact ⟨p, rfl, .inl (seqL_same e h)⟩
  · exact ⟨p, rfl, .inr (seqT_same e h)⟩
theorem PL.src {K : PySem.W.Frag} {H : Hp} {v : V} {ns : List Int} (h : PL K H v ns) : ∃ S : Src, v = S.v ∧ ∀ H', Same H H' → SK K H' (ns.map V.int) S := by
  obtain ⟨p, rfl, h | h⟩ := h
  · exact ⟨.lst p, rfl, fun H' e => seqL_same e h⟩
  · exact ⟨.tup p, rfl, fun H' e => seqT_same e h⟩
/-- behind a sign -/
def toldL (ps : List Int) (ls : List (List Int)) (j : Nat) : List Int := List.zipWith (fun p l => p * l.getD j 0) ps ls
/-- one place on, to a state -/
def goneAt (ps : List Int) (ls : List (List Int)) (u : Nat) : List Int := List.zipWith (fun p l => p * l.getD u 0) ps ls
def spToldP (K : PySem.W.Frag) : Sp := fun vs H Q _ => ∃ (m : Md) (v u : V) (ps : List Int) (ls : List (List Int)) (j b c n k : Nat), vs = [v, u, .int (j : Int)] ∧ Ok m H ∧ PL K (vw m H) v ps ∧ Dp K (vw m H) u (mtD ls) ∧ Mtx b n k ls ∧ ps.length = n ∧ n ≤ 6 ∧ j < k ∧ (∀ x ∈ ps, Bd c x) ∧ b ≤ 8000 ∧ c ≤ 8000 ∧
  ∀ p H', Go m H H' → SqL K (vw m H') p ((toldL ps ls j).map V.int) → Q (.ref p) H'
theorem zip_at {ps : List Int} {ls : List (List Int)} {j i : Nat} {x : Int} {l : List Int} (h1 : ps[i]? = some x) (h2 : ls[i]? = some l) : (toldL ps ls j)[i]? = some (x * l.getD j 0) := by
  unfold toldL
  rw [List.getElem?_zipWith, h1, h2]
def goneL (ps : List Int) (ls : List (List Int)) (n : Nat) : List Int := (List.range n).map fun u => (toldL ps ls u).sum
def spGone (K : PySem.W.Frag) : Sp := fun vs H Q _ => ∃ (m : Md) (v u : V) (ps : List Int) (ls : List (List Int)) (b c n : Nat), vs = [v, u] ∧ Ok m H ∧ PL K (vw m H) v ps ∧ Dp K (vw m H) u (mtD ls) ∧ Mtx b n n ls ∧ ps.length = n ∧ n ≤ 6 ∧ (∀ x ∈ ps, Bd c x) ∧ b ≤ 8000 ∧ c ≤ 8000 ∧
  ∀ p H', Go m H H' → SqL K (vw m H') p ((goneL ps ls n).map V.int) → Q (.ref p) H'
end VC

/-! VP1: values without addresses; what relates them to the heap -/
namespace VP
open PySem PySem.Spec PyProof.Rows L2 VB VZ VC
mutual
/-- data, whose lists are lists of the program's own -/
inductive Dq (K : PySem.W.Frag) (H : Hp) : V → PyData → Prop
  | non : Dq K H .non .none
  | bl (b : Bool) : Dq K H (.bl b) (.bool b)
  | int (i : Int) : Dq K H (.int i) (.int i)
  | str (x : Str) : Dq K H (.str x) (.str x)
  | lst {a : Addr} {xs : List V} {ds : List PyData} : H a = some (.lst xs) → DqAll K H xs ds → Dq K H (.ref a) (.list ds)
  | tup {a : Addr} {xs : List V} {ds : List PyData} : SqT K H a xs → DqAll K H xs ds → Dq K H (.ref a) (.tuple ds)
  | emp {a : Addr} : H a = some (.dK []) → Dq K H (.ref a) (.dict [])
inductive DqAll (K : PySem.W.Frag) (H : Hp) : List V → List PyData → Prop
  | nil : DqAll K H [] []
  | cons {v : V} {vs : List V} {d : PyData} {ds : List PyData} : Dq K H v d → DqAll K H vs ds → DqAll K H (v :: vs) (d :: ds)
end
section
variable {K : PySem.W.Frag} {H H' : Hp}
mutual
theorem dq_same (e : Same H H') : ∀ (x : PyData) (v : V), Dq K H v x → Dq K H' v x
  | .none, _, h => by cases h; exact .non
  | .bool _, _, h => by cases h; exact .bl _
  | .int _, _, h => by cases h; exact .int _
  | .str _, _, h => by cases h; exact .str _
  | .list ds, _, h => by
    cases h with
    | lst hs ha => exact .lst (e _ _ hs) (dqa_same e ds _ ha)
  | .tuple ds, _, h => by
    cases h with
    | tup hs ha => exact .tup (seqT_same e hs) (dqa_same e ds _ ha)
  | .dict _, _, h => by
    cases h with
    | emp hs => exact .emp (e _ _ hs)
theorem dqa_same (e : Same H H') : ∀ (ds : List PyData) (vs : List V), DqAll K H vs ds → DqAll K H' vs ds
  | [], _, h => by cases h; exact .nil
  | x :: ds, _, h => by
    cases h with
    | cons h1 h2 => exact .cons (dq_same e x _ h1) (dqa_same e ds _ h2)
end
mutual
theorem dq_dp : ∀ (x : PyData) (v : V), x.hasDict = false → Dq K H v x → Dp K H v x
  | .none, _, _, h => by cases h; exact .non
  | .bool _, _, _, h => by cases h; exact .bl _
  | .int _, _, _, h => by cases h; exact .int _
  | .str _, _, _, h => by cases h; exact .str _
  | .list ds, _, z, h => by
    cases h with
    | lst hs ha => exact .lst (SqL.of hs) (dqa_dp ds _ (by simpa [PyData.hasDict] using z) ha)
  | .tuple ds, _, z, h => by
    cases h with
    | tup hs ha => exact .tup hs (dqa_dp ds _ (by simpa [PyData.hasDict] using z) ha)
  | .dict _, _, z, _ => by simp [PyData.hasDict] at z
theorem dqa_dp : ∀ (ds : List PyData) (vs : List V), PyData.hasDictAll ds = false → DqAll K H vs ds → DpAll K H vs ds
  | [], _, _, h => by cases h; exact .nil
  | x :: ds, _, z, h => by
    cases h with
    | cons h1 h2 =>
      have z : x.hasDict = false ∧ PyData.hasDictAll ds = false := by simpa [PyData.hasDictAll] using z
      exact .cons (dq_dp x _ z.1 h1) (dqa_dp ds _ z.2 h2)
end
mutual
theorem dq_dx : ∀ (x : PyData) (v : V), Dq K H v x → Dx K H v x
  | .none, _, h => by cases h; exact .non
  | .bool _, _, h => by cases h; exact .bl _
  | .int _, _, h => by cases h; exact .int _
  | .str _, _, h => by cases h; exact .str _
  | .list ds, _, h => by
    cases h with
    | lst hs ha => exact .lst (SqL.of hs) (dqa_dx ds _ ha)
  | .tuple ds, _, h => by
    cases h with
    | tup hs ha => exact .tup hs (dqa_dx ds _ ha)
  | .dict _, _, h => by
    cases h with
    | emp e => exact .emp e
theorem dqa_dx : ∀ (ds : List PyData) (vs : List V), DqAll K H vs ds → DxAll K H vs ds
  | [], _, h => by cases h; exact .nil
  | x :: ds, _, h => by
    cases h with
    | cons h1 h2 => exact .cons (dq_dx x _ h1) (dqa_dx ds _ h2)
end
theorem Dq.dx {v : V} {d : PyData} (h : Dq K H v d) : Dx K H v d := dq_dx d v h
theorem Dq.mv {v : V} {d : PyData} (h : Dq K H v d) (e : Same H H') : Dq K H' v d := dq_same e d v h
theorem DqAll.mv {vs : List V} {ds : List PyData} (h : DqAll K H vs ds) (e : Same H H') : DqAll K H' vs ds := dqa_same e ds vs h
theorem Dq.dp {v : V} {d : PyData} (h : Dq K H v d) (z : d.hasDict = false) : Dp K H v d := dq_dp d v z h
theorem dq_tup {v : V} {ds : List PyData} (h : Dq K H v (.tuple ds)) : ∃ p xs, v = .ref p ∧ SqT K H p xs ∧ DqAll K H xs ds := by
  cases h with
  | tup hs ha => exact ⟨_, _, rfl, hs, ha⟩
theorem dq_lst {v : V} {ds : List PyData} (h : Dq K H v (.list ds)) : ∃ p xs, v = .ref p ∧ H p = some (.lst xs) ∧ DqAll K H xs ds := by
  cases h with
  | lst hs ha => exact ⟨_, _, rfl, hs, ha⟩
theorem dqa_len : ∀ {vs : List V} {ds : List PyData}, DqAll K H vs ds → vs.length = ds.length
  | _, _, .nil => rfl
  | _, _, .cons _ h => congrArg (· + 1) (dqa_len h)
theorem dqa_get : ∀ {vs : List V} {ds : List PyData} {i : Nat} {v : V}, DqAll K H vs ds → vs[i]? = some v → ∃ d, ds[i]? = some d ∧ Dq K H v d
  | _, _, 0, _, .cons h _, e => by cases e; exact ⟨_, rfl, h⟩
  | _, _, i + 1, _, .cons _ h, e => dqa_get (i := i) h e
theorem dqa_get' : ∀ {vs : List V} {ds : List PyData} {i : Nat} {d : PyData}, DqAll K H vs ds → ds[i]? = some d → ∃ v, vs[i]? = some v ∧ Dq K H v d
  | _, _, 0, _, .cons h _, e => by cases e; exact ⟨_, rfl, h⟩
  | _, _, i + 1, _, .cons _ h, e => dqa_get' (i := i) h e
theorem dqa_app : ∀ {vs ws : List V} {ds es : List PyData}, DqAll K H vs ds → DqAll K H ws es → DqAll K H (vs ++ ws) (ds ++ es)
  | _, _, _, _, .nil, k => k
  | _, _, _, _, .cons h t, k => .cons h (dqa_app t k)
theorem dqa_take : ∀ (n : Nat) {vs : List V} {ds : List PyData}, DqAll K H vs ds → DqAll K H (vs.take n) (ds.take n)
  | 0, _, _, _ => .nil
  | _ + 1, _, _, .nil => .nil
  | n + 1, _, _, .cons h t => .cons h (dqa_take n t)
theorem dqa_drop : ∀ (n : Nat) {vs : List V} {ds : List PyData}, DqAll K H vs ds → DqAll K H (vs.drop n) (ds.drop n)
  | 0, _, _, h => h
  | _ + 1, _, _, .nil => .nil
  | n + 1, _, _, .cons _ t => dqa_drop n t
theorem dqa_rev : ∀ {vs : List V} {ds : List PyData}, DqAll K H vs ds → DqAll K H vs.reverse ds.reverse
  | _, _, .nil => .nil
  | _, _, .cons h t => by rw [List.reverse_cons, List.reverse_cons]; exact dqa_app (dqa_rev t) (.cons h .nil)
theorem dqa_set : ∀ {vs : List V} {ds : List PyData} {v : V} {d : PyData} (n : Nat), DqAll K H vs ds → Dq K H v d → DqAll K H (vs.set n v) (ds.set n d)
  | _, _, _, _, _, .nil, _ => .nil
  | _, _, _, _, 0, .cons _ t, k => .cons k t
  | _, _, _, _, n + 1, .cons h t, k => .cons h (dqa_set n t k)
theorem dqa_erase : ∀ {vs : List V} {ds : List PyData} (n : Nat), DqAll K H vs ds → DqAll K H (vs.eraseIdx n) (ds.eraseIdx n)
  | _, _, _, .nil => .nil
  | _, _, 0, .cons _ t => t
  | _, _, n + 1, .cons h t => .cons h (dqa_erase n t)
theorem dqa_rep : ∀ (n : Nat) {vs : List V} {ds : List PyData}, DqAll K H vs ds → DqAll K H (List.replicate n vs).flatten (List.replicate n ds).flatten
  | 0, _, _, _ => .nil
  | n + 1, _, _, h => by rw [List.replicate_succ, List.replicate_succ, List.flatten_cons, List.flatten_cons]; exact dqa_app h (dqa_rep n h)
theorem dqa_ints (ns : List Int) : DqAll K H (ns.map V.int) (ns.map PyData.int) := by
  induction ns with
  | nil => exact .nil
  | cons n r ih => exact .cons (.int n) ih
theorem dqa_ints_inv : ∀ {ns : List Int} {vs : List V}, DqAll K H vs (ns.map PyData.int) → vs = ns.map V.int
  | [], _, h => by cases h; rfl
  | n :: r, _, h => by
    cases h with
    | cons h1 h2 =>
      cases h1
      rw [dqa_ints_inv h2]
      rfl
theorem dqa_strs_inv : ∀ {ns : List Str} {vs : List V}, DqAll K H vs (ns.map PyData.str) → vs = ns.map V.str
  | [], _, h => by cases h; rfl
  | n :: r, _, h => by
    cases h with
    | cons h1 h2 =>
      cases h1
      rw [dqa_strs_inv h2]
      rfl
theorem dqa_bls_inv : ∀ {ns : List Bool} {vs : List V}, DqAll K H vs (ns.map PyData.bool) → vs = ns.map V.bl
  | [], _, h => by cases h; rfl
  | n :: r, _, h => by
    cases h with
    | cons h1 h2 =>
      cases h1
      rw [dqa_bls_inv h2]
      rfl
end
/-- what a name or an expression has: data; a walked range; a record; the deck; a list of one's own, still written -/
inductive D where
  | no
  | py (p : PyData)
  | rng (n : Int)
  | rcd (kvs : List (Key × PyData))
  | deck
  | own (ds : List PyData)
  | ext (R : V → Hp → Prop) (mono : ∀ v H H', Same H H' → R v H → R v H')
abbrev PEnv := List D
structure Wd where
  m : Md
  ow : Nat → Option Addr
structure Bs where
  K : PySem.W.Frag
  B : Hp
  m0 : Md
def KvD (K : PySem.W.Frag) (H : Hp) : List (Key × V) → List (Key × PyData) → Prop := Paired fun p q => p.1 = q.1 ∧ Dq K H p.2 q.2
theorem KvD.mv {K : PySem.W.Frag} {H H' : Hp} (e : Same H H') : ∀ {vs : List (Key × V)} {kvs : List (Key × PyData)}, KvD K H vs kvs → KvD K H' vs kvs
  | _, _, .nil => .nil
  | _, _, .cons h t => .cons ⟨h.1, h.2.mv e⟩ (KvD.mv e t)
def RD (K : PySem.W.Frag) (m : Md) (H : Hp) (v : V) : D → Prop
  | .no => False
  | .py p => Dq K (vw m H) v p
  | .rng n => ∃ a, v = .ref a ∧ vw m H a = some (.rng 0 n)
  | .rcd kvs => ∃ a vs, v = .ref a ∧ vw m H a = some (.dK vs) ∧ KvD K (vw m H) vs kvs
  | .deck => ∃ d l, v = .ref d ∧ m.dk = some (d, l)
  | .own _ => False
  | .ext R _ => R v (vw m H)
theorem rdp {K : PySem.W.Frag} {m : Md} {H : Hp} {v : V} {p : PyData} (h : Dq K (vw m H) v p) : RD K m H v (.py p) := h
theorem RD.dp {K : PySem.W.Frag} {m : Md} {H : Hp} {v : V} {p : PyData} (h : RD K m H v (.py p)) : Dq K (vw m H) v p := h
theorem RD.mv {K : PySem.W.Frag} {m m' : Md} {H H' : Hp} {v : V} {d : D} (h : RD K m H v d) (e : Same (vw m H) (vw m' H')) (ed : m'.dk = m.dk) : RD K m' H' v d := by
  cases d with
  | no => exact h
  | py p => exact Dq.mv h e
  | rng n => obtain ⟨a, h1, h2⟩ := h; exact ⟨a, h1, e _ _ h2⟩
  | rcd kvs => obtain ⟨a, vs, h1, h2, h3⟩ := h; exact ⟨a, vs, h1, e _ _ h2, h3.mv e⟩
  | deck => obtain ⟨d, l, h1, h2⟩ := h; exact ⟨d, l, h1, ed ▸ h2⟩
  | ext R mono => exact mono _ _ _ e h
  | own ds => exact h
/-- a slot -/
def SR (K : PySem.W.Frag) (m : Md) (H : Hp) (ow : Option Addr) : Option V → D → Prop
  | _, .no => True
  | o, .own ds => ∃ a vs, ow = some a ∧ o = some (.ref a) ∧ a ∈ m.ex ∧ H a = some (.lst vs) ∧ DqAll K (vw m H) vs ds
  | o, .py p => ∃ v, o = some v ∧ Dq K (vw m H) v p
  | o, .rng n => ∃ v, o = some v ∧ RD K m H v (.rng n)
  | o, .rcd kvs => ∃ v, o = some v ∧ RD K m H v (.rcd kvs)
  | o, .deck => ∃ v, o = some v ∧ RD K m H v .deck
  | o, .ext R mono => ∃ v, o = some v ∧ RD K m H v (.ext R mono)
theorem SR.of_rd {K : PySem.W.Frag} {m : Md} {H : Hp} {ow : Option Addr} {v : V} {d : D} (h : RD K m H v d) : SR K m H ow (some v) d := by
  cases d with
  | no => exact h.elim
  | py p => exact ⟨v, rfl, h⟩
  | rng n => exact ⟨v, rfl, h⟩
  | rcd kvs => exact ⟨v, rfl, h⟩
  | deck => exact ⟨v, rfl, h⟩
  | ext R mono => exact ⟨v, rfl, h⟩
  | own ds => exact h.elim
/-- a value that an expression may hand on -/
def D.ok : D → Bool
  | .no => false
  | .own _ => false
  | _ => true
theorem SR.rd {K : PySem.W.Frag} {m : Md} {H : Hp} {ow : Option Addr} {o : Option V} {d : D} (h : SR K m H ow o d) (k : d.ok = true) : ∃ v, o = some v ∧ RD K m H v d := by
  cases d with
  | no => cases k
  | own ds => cases k
  | py p => exact h
  | rng n => exact h
  | rcd kvs => exact h
  | deck => exact h
  | ext R mono => exact h
/-- the slots as they are known -/
structure Rl (b : Bs) (W : Wd) (σ : L2.St) (env : PEnv) (H : Hp) : Prop where
  ok : Ok W.m H
  dk : W.m.dk = b.m0.dk
  ex : ∀ a ∈ b.m0.ex, a ∈ W.m.ex
  same : Same b.B H
  boff : ∀ a o, b.B a = some o → b.m0.off a
  exB : ∀ a ∈ W.m.ex, a ∈ b.m0.ex ∨ b.B a = none
  own : ∀ i a, W.ow i = some a → b.B a = none ∧ W.m.off a ∧ H a ≠ none ∧ a ∉ b.m0.ex
  inj : ∀ i j a, W.ow i = some a → W.ow j = some a → i = j
  len : σ.length = env.length
  sl : ∀ i d, env[i]? = some d → ∃ o, σ[i]? = some o ∧ SR b.K W.m H (W.ow i) o d
section
variable {b : Bs} {W : Wd} {σ : L2.St} {env : PEnv} {H H' H1 : Hp} {i j : Nat} {v : V} {d : D} {a p : Addr} {o : HO} {vs : List V} {ds : List PyData} {m : Md} {K : PySem.W.Frag}
theorem off_of {m m' : Md} (e : m.dk = m'.dk) (h : m'.off a) : m.off a := fun d l q => h d l (e ▸ q)
theorem SR.mv {ow : Option Addr} {o : Option V} (h : SR K m H ow o d) (e : Same (vw m H) (vw m H')) (k : ∀ a vs, ow = some a → H a = some (.lst vs) → H' a = some (.lst vs)) : SR K m H' ow o d := by
  cases d with
  | no => trivial
  | own ds =>
    obtain ⟨a, vs, h1, h2, h3, h4, h5⟩ := h
    exact ⟨a, vs, h1, h2, h3, k a vs h1 h4, h5.mv e⟩
  | py p => obtain ⟨v, h1, h2⟩ := h; exact ⟨v, h1, Dq.mv h2 e⟩
  | rng n => obtain ⟨v, h1, h2⟩ := h; exact ⟨v, h1, RD.mv h2 e rfl⟩
  | rcd kvs => obtain ⟨v, h1, h2⟩ := h; exact ⟨v, h1, RD.mv h2 e rfl⟩
  | deck => obtain ⟨v, h1, h2⟩ := h; exact ⟨v, h1, RD.mv h2 e rfl⟩
  | ext R mono => obtain ⟨v, h1, h2⟩ := h; exact ⟨v, h1, RD.mv h2 e rfl⟩
/-- a call, or new objects -/
theorem Rl.go (h : Rl b W σ env H) (g : Go W.m H H') : Rl b W σ env H' where
  ok := g.ok
  dk := h.dk
  ex := h.ex
  same := fun a o e => g.at (off_of h.dk (h.boff a o e)) (h.same a o e)
  boff := h.boff
  exB := h.exB
  own := fun i a e => by
    obtain ⟨h1, h2, h3, h4⟩ := h.own i a e
    exact ⟨h1, h2, g.ne h3, h4⟩
  inj := h.inj
  len := h.len
  sl := fun i d e => by
    obtain ⟨o, h1, h2⟩ := h.sl i d e
    exact ⟨o, h1, h2.mv g.vw fun a vs ea hv => g.at (h.own i a ea).2.1 hv⟩
theorem Rl.var (h : Rl b W σ env H) (e : env[i]? = some d) (k : d.ok = true) : ∃ v, σ[i]? = some (some v) ∧ RD b.K W.m H v d := by
  obtain ⟨o, h1, h2⟩ := h.sl i d e
  obtain ⟨v, rfl, h3⟩ := h2.rd k
  exact ⟨v, h1, h3⟩
theorem Rl.lt (h : Rl b W σ env H) (e : env[i]? = some d) : i < σ.length := by
  rw [h.len]
  exact (List.getElem?_eq_some_iff.mp e).1
theorem Rl.set (h : Rl b W σ env H) (r : RD b.K W.m H v d) : Rl b W (σ.set i (some v)) (env.set i d) H :=
  { h with
    len := by rw [List.length_set, List.length_set, h.len]
    sl := fun j d' e => by
      by_cases c : i = j
      · subst c
        have hl : i < env.length := by
          have := (List.getElem?_eq_some_iff.mp e).1
          rwa [List.length_set] at this
        rw [List.getElem?_set_self hl] at e
        cases e
        exact ⟨some v, List.getElem?_set_self (by rw [h.len]; exact hl), .of_rd r⟩
      · rw [List.getElem?_set_ne c] at e
        rw [List.getElem?_set_ne c]
        exact h.sl j d' e }
/-- a slot is forgotten -/
theorem Rl.forget (h : Rl b W σ env H) (o : Option V) : Rl b W (σ.set i o) (env.set i .no) H :=
  { h with
    len := by rw [List.length_set, List.length_set, h.len]
    sl := fun j d' e => by
      by_cases c : i = j
      · subst c
        have hl : i < env.length := by
          have := (List.getElem?_eq_some_iff.mp e).1
          rwa [List.length_set] at this
        rw [List.getElem?_set_self hl] at e
        cases e
        exact ⟨o, List.getElem?_set_self (by rw [h.len]; exact hl), trivial⟩
      · rw [List.getElem?_set_ne c] at e
        rw [List.getElem?_set_ne c]
        exact h.sl j d' e }
def wipeE (env : PEnv) : List Nat → PEnv
  | [] => env
  | j :: vs => (wipeE env vs).set j .no
theorem Rl.wipe (h : Rl b W σ env H) : ∀ vs : List Nat, Rl b W (wipe σ vs) (wipeE env vs) H
  | [] => h
  | j :: vs => by
    have := (Rl.wipe h vs).forget (i := j) none
    exact this
/-- a new list goes into a slot as one's own -/
theorem Rl.setOwn (h : Rl b W σ env H) (g : Go W.m H H') (hn : H p = none) (hp : H' p = some (.lst vs)) (da : DqAll b.K (VC.vw (W.m.add p) H') vs ds) :
    Rl b ⟨W.m.add p, fun k => if k = i then some p else W.ow k⟩ (σ.set i (some (.ref p))) (env.set i (.own ds)) H' ∧ Same (VC.vw W.m H) (VC.vw (W.m.add p) H') := by
  have st : Same (VC.vw W.m H) (VC.vw (W.m.add p) H') := g.old hn
  have h' := h.go g
  have hb : b.B p = none := by
    cases e : b.B p with
    | none => rfl
    | some o => rw [h.same p o e] at hn; cases hn
  have hw : ∀ i, W.ow i ≠ some p := fun i e => (h.own i p e).2.2.1 hn
  have hx : p ∉ b.m0.ex := fun z => h.ok.ex p (h.ex p z) hn
  refine ⟨⟨g.ok.add (by rw [hp]; intro z; cases z), h.dk, fun a ha => List.mem_cons_of_mem _ (h.ex a ha), h'.same, h.boff, fun c hc => (List.mem_cons.mp hc).elim (fun e => .inr (e ▸ hb)) (h.exB c), fun k a e => ?_, fun k l a e1 e2 => ?_, by rw [List.length_set, List.length_set, h.len], fun k d' e => ?_⟩, st⟩
  · simp only at e
    split at e
    · cases e
      exact ⟨hb, h.ok.off hn, (by rw [hp]; intro z; cases z), hx⟩
    · exact h'.own k a e
  · simp only at e1 e2
    split at e1
    · rename_i c1
      cases e1
      split at e2
      · rename_i c2
        rw [c1, c2]
      · exact absurd e2 (hw l)
    · split at e2
      · cases e2
        exact absurd e1 (hw k)
      · exact h.inj k l a e1 e2
  · by_cases c : i = k
    · subst c
      have hl : i < env.length := by
        have := (List.getElem?_eq_some_iff.mp e).1
        rwa [List.length_set] at this
      rw [List.getElem?_set_self hl] at e
      cases e
      exact ⟨some (.ref p), List.getElem?_set_self (by rw [h.len]; exact hl), p, vs, if_pos rfl, rfl, List.mem_cons_self, hp, da⟩
    · rw [List.getElem?_set_ne c] at e
      rw [List.getElem?_set_ne c]
      obtain ⟨o', h1, h2⟩ := h.sl k d' e
      refine ⟨o', h1, ?_⟩
      have ek : (if k = i then some p else W.ow k) = W.ow k := if_neg fun z => c z.symm
      show SR b.K (W.m.add p) H' (if k = i then some p else W.ow k) o' d'
      rw [ek]
      cases d' with
      | no => trivial
      | own ds' =>
        obtain ⟨a', vs', g1, g2, g3, g4, g5⟩ := h2
        exact ⟨a', vs', g1, g2, List.mem_cons_of_mem _ g3, g.at (h.own k a' g1).2.1 g4, g5.mv st⟩
      | py p => obtain ⟨v, g1, g2⟩ := h2; exact ⟨v, g1, Dq.mv g2 st⟩
      | rng n => obtain ⟨v, g1, g2⟩ := h2; exact ⟨v, g1, RD.mv g2 st rfl⟩
      | rcd kvs => obtain ⟨v, g1, g2⟩ := h2; exact ⟨v, g1, RD.mv g2 st rfl⟩
      | deck => obtain ⟨v, g1, g2⟩ := h2; exact ⟨v, g1, RD.mv g2 st rfl⟩
      | ext R mono => obtain ⟨v, g1, g2⟩ := h2; exact ⟨v, g1, RD.mv g2 st rfl⟩
/-- with one more thing hidden that was not there ahead -/
theorem Rl.hide (h : Rl b W σ env H) (g : Go W.m H H') (hn : H p = none) (hp : H' p ≠ none) : Rl b ⟨W.m.add p, W.ow⟩ σ env H' where
  ok := g.ok.add hp
  dk := h.dk
  ex := fun a ha => List.mem_cons_of_mem _ (h.ex a ha)
  same := (h.go g).same
  boff := h.boff
  exB := fun c hc => (List.mem_cons.mp hc).elim (fun e => .inr (by
    rw [e]
    cases q : b.B p with
    | none => rfl
    | some o => rw [h.same p o q] at hn; cases hn)) (h.exB c)
  own := (h.go g).own
  inj := h.inj
  len := h.len
  sl := fun k d' e => by
    have st : Same (VC.vw W.m H) (VC.vw (W.m.add p) H') := g.old hn
    obtain ⟨o', h1, h2⟩ := h.sl k d' e
    refine ⟨o', h1, ?_⟩
    cases d' with
    | no => trivial
    | own ds' =>
      obtain ⟨a', vs', g1, g2, g3, g4, g5⟩ := h2
      exact ⟨a', vs', g1, g2, List.mem_cons_of_mem _ g3, g.at (h.own k a' g1).2.1 g4, g5.mv st⟩
    | py p => obtain ⟨v, g1, g2⟩ := h2; exact ⟨v, g1, Dq.mv g2 st⟩
    | rng n => obtain ⟨v, g1, g2⟩ := h2; exact ⟨v, g1, RD.mv g2 st rfl⟩
    | rcd kvs => obtain ⟨v, g1, g2⟩ := h2; exact ⟨v, g1, RD.mv g2 st rfl⟩
    | deck => obtain ⟨v, g1, g2⟩ := h2; exact ⟨v, g1, RD.mv g2 st rfl⟩
    | ext R mono => obtain ⟨v, g1, g2⟩ := h2; exact ⟨v, g1, RD.mv g2 st rfl⟩
/-- what is one's own -/
theorem Rl.ownAt (h : Rl b W σ env H) (e : env[i]? = some (.own ds)) : ∃ a vs, W.ow i = some a ∧ σ[i]? = some (some (.ref a)) ∧ a ∈ W.m.ex ∧ H a = some (.lst vs) ∧ DqAll b.K (VC.vw W.m H) vs ds := by
  obtain ⟨o, h1, a, vs, g1, rfl, g3, g4, g5⟩ := h.sl i _ e
  exact ⟨a, vs, g1, h1, g3, g4, g5⟩
/-- it is written -/
theorem Rl.mut (h : Rl b W σ env H) (ea : W.ow i = some a) (hs : σ[i]? = some (some (.ref a))) (hx : a ∈ W.m.ex) (da : DqAll b.K (VC.vw W.m H) vs ds) : Rl b W σ (env.set i (.own ds)) (upd H a (.lst vs)) ∧ VC.vw W.m (upd H a (.lst vs)) = VC.vw W.m H := by
  obtain ⟨o1, o2, o3, o4⟩ := h.own i a ea
  have ev : VC.vw W.m (upd H a (.lst vs)) = VC.vw W.m H := by
    funext c
    unfold VC.vw
    by_cases z : c ∈ W.m.ex
    · rw [if_pos z, if_pos z]
    · rw [if_neg z, if_neg z]
      have hc : c ≠ a := fun e => z (e ▸ hx)
      cases q : W.m.dk with
      | none => exact upd_ne hc
      | some w => obtain ⟨d, l⟩ := w; show hid d l _ c = hid d l _ c; unfold hid; rw [upd_ne hc]
  refine ⟨⟨⟨fun d l q => ?_, fun c hc => ?_⟩, h.dk, h.ex, fun c x e => ?_, h.boff, h.exB, fun k c e => ?_, h.inj, by rw [List.length_set]; exact h.len, fun k d' e => ?_⟩, ev⟩
  · obtain ⟨n1, n2⟩ := o2 d l q
    exact (h.ok.dk d l q).upo n1 n2
  · by_cases z : c = a
    · rw [z, upd_same]; intro y; cases y
    · rw [upd_ne z]; exact h.ok.ex c hc
  · rw [upd_ne (fun z => by rw [z, o1] at e; cases e)]
    exact h.same c x e
  · obtain ⟨h1, h2, h3, h4⟩ := h.own k c e
    refine ⟨h1, h2, ?_, h4⟩
    by_cases z : c = a
    · rw [z, upd_same]; intro y; cases y
    · rw [upd_ne z]; exact h3
  · by_cases c : i = k
    · subst c
      have hl : i < env.length := by
        have := (List.getElem?_eq_some_iff.mp e).1
        rwa [List.length_set] at this
      rw [List.getElem?_set_self hl] at e
      cases e
      exact ⟨_, hs, a, vs, ea, rfl, hx, upd_same, by rw [ev]; exact da⟩
    · rw [List.getElem?_set_ne c] at e
      obtain ⟨o', h1, h2⟩ := h.sl k d' e
      refine ⟨o', h1, h2.mv (by rw [ev]; exact Same.refl _) fun c' vs' ec hv => ?_⟩
      have na : c' ≠ a := fun z => c (h.inj i k a ea (by rw [← z]; exact ec))
      rw [upd_ne na]
      exact hv
def Md.del (m : Md) (a : Addr) : Md := ⟨m.dk, m.ex.filter (· ≠ a)⟩
theorem vw_del : Same (VC.vw m H) (VC.vw (Md.del m a) H) := fun c x e => by
  obtain ⟨h1, h2, h3⟩ := vw_some e
  rw [vw_get (m := Md.del m a) (fun z => h1 (List.mem_filter.mp z).1) h2]
  exact h3
/-- it is written no more -/
theorem Rl.freeze (h : Rl b W σ env H) (e : env[i]? = some (.own ds)) : ∃ a vs, W.ow i = some a ∧ H a = some (.lst vs) ∧ Rl b ⟨Md.del W.m a, W.ow⟩ σ (env.set i (.py (.list ds))) H ∧ DqAll b.K (VC.vw W.m H) vs ds ∧ a ∈ W.m.ex ∧ W.m.off a := by
  obtain ⟨a, vs, ea, hs, hx, hv, da⟩ := h.ownAt e
  obtain ⟨o1, o2, o3, o4⟩ := h.own i a ea
  have st : Same (VC.vw W.m H) (VC.vw (Md.del W.m a) H) := vw_del
  have va : VC.vw (Md.del W.m a) H a = some (.lst vs) := by
    rw [vw_get (m := Md.del W.m a) (fun z => by simp [Md.del] at z) o2]
    exact hv
  refine ⟨a, vs, ea, hv, ⟨⟨h.ok.dk, fun c hc => h.ok.ex c (List.mem_filter.mp hc).1⟩, h.dk, fun c hc => List.mem_filter.mpr ⟨h.ex c hc, by simp; exact fun z => o4 (z ▸ hc)⟩, h.same, h.boff, (fun c hc => h.exB c (List.mem_filter.mp hc).1), h.own, h.inj, by rw [List.length_set]; exact h.len, fun k d' q => ?_⟩, da, hx, o2⟩
  by_cases c : i = k
  · subst c
    have hl : i < env.length := (List.getElem?_eq_some_iff.mp e).1
    rw [List.getElem?_set_self hl] at q
    cases q
    exact ⟨_, hs, .ref a, rfl, .lst va (da.mv st)⟩
  · rw [List.getElem?_set_ne c] at q
    obtain ⟨o', h1, h2⟩ := h.sl k d' q
    refine ⟨o', h1, ?_⟩
    cases d' with
    | no => trivial
    | own ds' =>
      obtain ⟨a', vs', g1, g2, g3, g4, g5⟩ := h2
      exact ⟨a', vs', g1, g2, List.mem_filter.mpr ⟨g3, by simp; exact fun z => c (h.inj i k a ea (z ▸ g1))⟩, g4, g5.mv st⟩
    | py p => obtain ⟨v, g1, g2⟩ := h2; exact ⟨v, g1, Dq.mv g2 st⟩
    | rng n => obtain ⟨v, g1, g2⟩ := h2; exact ⟨v, g1, RD.mv g2 st rfl⟩
    | rcd kvs => obtain ⟨v, g1, g2⟩ := h2; exact ⟨v, g1, RD.mv g2 st rfl⟩
    | deck => obtain ⟨v, g1, g2⟩ := h2; exact ⟨v, g1, RD.mv g2 st rfl⟩
    | ext R mono => obtain ⟨v, g1, g2⟩ := h2; exact ⟨v, g1, RD.mv g2 st rfl⟩
/-- what a def hands back stands for its caller -/
theorem Rl.out (h : Rl b W σ env H) (r : RD b.K W.m H v d) : RD b.K b.m0 H v d := by
  refine r.mv (fun c x e => ?_) h.dk.symm
  obtain ⟨h1, h2, h3⟩ := vw_some e
  rw [vw_get (m := b.m0) (fun z => h1 (h.ex c z)) (off_of h.dk.symm h2)]
  exact h3
theorem Rl.ok0 (h : Rl b W σ env H) : Ok b.m0 H := ⟨fun d l q => h.ok.dk d l (h.dk.trans q), fun a ha => h.ok.ex a (h.ex a ha)⟩
end
end VP

/-! VP2: readings without a heap: what they are, expressions -/
namespace VP
open PySem PySem.Spec PyProof.Rows L2 VB VZ VC
abbrev PTE := PEnv → (D → Prop) → Prop
abbrev PTT := PEnv → (Bool → Prop) → Prop
abbrev PTA := PEnv → (List D → Prop) → Prop
/-- a new list; items to walk -/
abbrev PTL := PEnv → (List PyData → Prop) → Prop
structure PEn where
  nx : PEnv → Prop
  rt : D → Prop
  bk : PEnv → Prop := fun _ => False
  ct : PEnv → Prop := fun _ => False
abbrev PTS := PEn → PEnv → Prop
def SE (b : Bs) (te : TE) (pe : PTE) : Prop := ∀ W σ env H (Q : VK) (P : D → Prop), Rl b W σ env H → pe env P →
  (∀ v d H', Go W.m H H' → RD b.K W.m H' v d → P d → Q v H') → te σ H Q
def ST (b : Bs) (tt : TT) (pt : PTT) : Prop := ∀ W σ env H (Q : Bool → Hp → Prop) (P : Bool → Prop), Rl b W σ env H → pt env P →
  (∀ k H', Go W.m H H' → P k → Q k H') → tt σ H Q
inductive RDs (K : PySem.W.Frag) (m : Md) (H : Hp) : List V → List D → Prop
  | nil : RDs K m H [] []
  | cons {v : V} {d : D} {vs : List V} {ds : List D} : RD K m H v d → RDs K m H vs ds → RDs K m H (v :: vs) (d :: ds)
def SA (b : Bs) (ta : TA) (pa : PTA) : Prop := ∀ W σ env H (Q : List V → Hp → Prop) (P : List D → Prop), Rl b W σ env H → pa env P →
  (∀ vs ds H', Go W.m H H' → RDs b.K W.m H' vs ds → P ds → Q vs H') → ta σ H Q
/-- a new list of one's own, at p -/
def SF (b : Bs) (te : TE) (pf : PTL) : Prop := ∀ W σ env H (Q : VK) (P : List PyData → Prop), Rl b W σ env H → pf env P →
  (∀ p vs ds H', Go W.m H H' → H p = none → H' p = some (.lst vs) → DqAll b.K (vw (W.m.add p) H') vs ds → P ds → Q (.ref p) H') → te σ H Q
abbrev bs (X : Cx) (B : Hp) (m0 : Md) : Bs := ⟨X.K, B, m0⟩
structure QE (X : Cx) (B : Hp) (m0 : Md) (e : Expr) (te : TE) (pe : PTE) : Prop where
  p : PE X e te
  s : SE (bs X B m0) te pe
structure QF (X : Cx) (B : Hp) (m0 : Md) (e : Expr) (te : TE) (pf : PTL) : Prop where
  p : PE X e te
  s : SF (bs X B m0) te pf
structure QT (X : Cx) (B : Hp) (m0 : Md) (e : Expr) (tt : TT) (pt : PTT) : Prop where
  p : PT X e tt
  s : ST (bs X B m0) tt pt
structure QW (X : Cx) (B : Hp) (m0 : Md) (e : Expr) (tt : TT) (pt : PTT) : Prop where
  p : PW X e tt
  s : ST (bs X B m0) tt pt
structure QA (X : Cx) (B : Hp) (m0 : Md) (es : List Expr) (ta : TA) (pa : PTA) : Prop where
  p : PA X es ta
  s : SA (bs X B m0) ta pa
section
variable {K : PySem.W.Frag} {m m' : Md} {H H' : Hp} {vs : List V} {ds : List D} {b : Bs} {W : Wd} {σ : L2.St} {env : PEnv}
theorem RDs.mv (e : Same (vw m H) (vw m' H')) (ed : m'.dk = m.dk) : ∀ {vs : List V} {ds : List D}, RDs K m H vs ds → RDs K m' H' vs ds
  | _, _, .nil => .nil
  | _, _, .cons h t => .cons (h.mv e ed) (RDs.mv e ed t)
theorem RDs.len : ∀ {vs : List V} {ds : List D}, RDs K m H vs ds → vs.length = ds.length
  | _, _, .nil => rfl
  | _, _, .cons _ t => congrArg (· + 1) (RDs.len t)
/-- a new list is data, too -/
def pF (pf : PTL) : PTE := fun env P => pf env fun ds => P (.py (.list ds))
theorem SE.ofF {te : TE} {pf : PTL} (h : SF b te pf) : SE b te (pF pf) := by
  intro W σ env H Q P hR hp k
  refine h W σ env H Q _ hR hp fun p vs ds H' g hn hv da q => ?_
  have st : Same (vw (W.m.add p) H') (vw W.m H') := vw_addsub
  have va : vw W.m H' p = some (.lst vs) := by rw [vw_get (hR.ok.nex hn) (hR.ok.off hn)]; exact hv
  exact k _ _ H' g (rdp (.lst va (da.mv st))) q
end
section
variable {X : Cx} {B : Hp} {m0 : Md} {e a c d : Expr} {es : List Expr} {te ta tb tc : TE} {tt tu : TT} {tA : TA} {tl th : TO} {pe pa pb pc : PTE} {pt pu : PTT} {pA : PTA} {pf : PTL} {pos : Pos} {b : Bs}
theorem qe_F (h : QF X B m0 e te pf) : QE X B m0 e te (pF pf) := ⟨h.p, .ofF h.s⟩
/-! ### names, constants -/
def pVar (i : Nat) : PTE := fun env P => ∃ d, env[i]? = some d ∧ d.ok = true ∧ P d
def pC (p : PyData) : PTE := fun env P => P (.py p)
theorem se_var {i : Nat} : SE b (tVar i) (pVar i) := by
  intro W σ env H Q P hR hp k
  obtain ⟨d, h1, h2, h3⟩ := hp
  obtain ⟨v, g1, g2⟩ := hR.var h1 h2
  exact ⟨v, g1, k v d H (.refl hR.ok) g2 h3⟩
theorem se_c {v : V} {p : PyData} (h : ∀ H, Dq b.K H v p) : SE b (tC v) (pC p) := fun W σ env H Q P hR hp k => k v _ H (.refl hR.ok) (rdp (h _)) hp
theorem qv (i : Nat) {x : Str} (hN : X.N[i]? = some x := by rfl) (hv : Vis X.env.scope x := by first | exact .inl rfl | exact .inr (.inl rfl) | exact .inr (.inr rfl) | assumption) (hd : (x == ("__debug__" : Str)) = false := by decide) (hcd : (x == ("__classdict__" : Str)) = false := by decide) : QE X B m0 (.Name x pos) (tVar i) (pVar i) :=
  ⟨pe_var hN hv hd hcd, se_var⟩
theorem qe_int {i j pos} : QE X B m0 (.Constant (.int i) j pos) (tC (.int i)) (pC (.int i)) := ⟨pe_int, se_c fun _ => .int _⟩
theorem qe_bl {i j pos} : QE X B m0 (.Constant (.bool i) j pos) (tC (.bl i)) (pC (.bool i)) := ⟨pe_bl, se_c fun _ => .bl _⟩
theorem qe_non {j pos} : QE X B m0 (.Constant .none j pos) (tC .non) (pC .none) := ⟨pe_non, se_c fun _ => .non⟩
theorem qe_str {i j pos} : QE X B m0 (.Constant (.str i) j pos) (tC (.str i)) (pC (.str i)) := ⟨pe_str, se_c fun _ => .str _⟩
theorem qe_globI {x : Str} {i : Int} {t : Tok} (hm : X.mg x = some (.int i t)) (hg : Gl X x := by rfl) (hd : (x == ("__debug__" : Str)) = false := by decide) : QE X B m0 (.Name x pos) (tC (.int i)) (pC (.int i)) := ⟨pe_glob hg hm ⟨_, rfl⟩ hd, se_c fun _ => .int _⟩
theorem qe_globS {x : Str} {i : Str} {t : Tok} (hm : X.mg x = some (.str i t)) (hg : Gl X x := by rfl) (hd : (x == ("__debug__" : Str)) = false := by decide) : QE X B m0 (.Name x pos) (tC (.str i)) (pC (.str i)) := ⟨pe_glob hg hm ⟨_, rfl⟩ hd, se_c fun _ => .str _⟩
/-! ### operations -/
abbrev P2 := D → D → (D → Prop) → Prop
def SO (K : PySem.W.Frag) (r : R2) (pr : P2) : Prop := ∀ m H x y dx dy (Q : VK) (P : D → Prop), Ok m H → RD K m H x dx → RD K m H y dy → pr dx dy P → (∀ v d H', Go m H H' → RD K m H' v d → P d → Q v H') → r x y H Q
def pOp (pr : P2) (pa pb : PTE) : PTE := fun env P => pa env fun x => pb env fun y => pr x y P
theorem se_op {r : R2} {pr : P2} (ho : SO b.K r pr) (ha : SE b ta pa) (hb : SE b tb pb) : SE b (tOp r ta tb) (pOp pr pa pb) := by
  intro W σ env H Q P hR hp k
  refine ha W σ env H _ _ hR hp fun x dx H1 g1 r1 q1 => ?_
  refine hb W σ env H1 _ _ (hR.go g1) q1 fun y dy H2 g2 r2 q2 => ?_
  exact ho W.m H2 x y dx dy Q _ g2.ok (r1.mv g2.vw rfl) r2 q2 fun v d H' g r p => k v d H' ((g1.trans g2).trans g) r p
theorem qe_op {op : Operator} {r : R2} {pr : P2} (ho : OpR X (binaryOp op) r) (hs : SO X.K r pr) (ha : QE X B m0 a ta pa) (hb : QE X B m0 c tb pb) : QE X B m0 (.BinOp a op c pos) (tOp r ta tb) (pOp pr pa pb) := ⟨pe_op ho ha.p hb.p, se_op (b := bs X B m0) hs ha.s hb.s⟩
theorem qe_cmp {op : CmpOp} {r : R2} {pr : P2} (ho : OpR X (compareOp op) r) (hs : SO X.K r pr) (ha : QE X B m0 a ta pa) (hb : QE X B m0 c tb pb) (hm : behindInMarks op c = false) : QE X B m0 (.Compare a [op] [c] pos) (tOp r ta tb) (pOp pr pa pb) := ⟨pe_cmpR ho ha.p hb.p hm, se_op (b := bs X B m0) hs ha.s hb.s⟩
def pTest (pe : PTE) : PTT := fun env P => pe env fun d => ∃ k, d = .py (.bool k) ∧ P k
theorem st_test (h : SE b te pe) : ST b (tTest te) (pTest pe) := by
  intro W σ env H Q P hR hp k
  refine h W σ env H _ _ hR hp fun v d H' g1 r1 q1 => ?_
  obtain ⟨c, rfl, q⟩ := q1
  cases (show Dq _ _ v (.bool c) from r1)
  exact ⟨c, rfl, k c H' g1 q⟩
theorem qt_cmp {op : CmpOp} {r : R2} {pr : P2} (ho : OpR X (compareOp op) r) (hs : SO X.K r pr) (ha : QE X B m0 a ta pa) (hb : QE X B m0 c tb pb) (hm : behindInMarks op c = false) : QT X B m0 (.Compare a [op] [c] pos) (tTest (tOp r ta tb)) (pTest (pOp pr pa pb)) := ⟨pt_cmpR ho ha.p hb.p hm, st_test (se_op (b := bs X B m0) hs ha.s hb.s)⟩
def pChain (pr pr' : P2) (pa pb pc : PTE) : PTE := fun env P => pa env fun x => pb env fun y => pr x y fun z => ∃ k, z = .py (.bool k) ∧ if k = true then pc env fun w => pr' y w P else P (.py (.bool false))
theorem se_chain {r r' : R2} {pr pr' : P2} (ho : SO b.K r pr) (ho' : SO b.K r' pr') (ha : SE b ta pa) (hb : SE b tb pb) (hc : SE b tc pc) : SE b (tChain r r' ta tb tc) (pChain pr pr' pa pb pc) := by
  intro W σ env H Q P hR hp k
  refine ha W σ env H _ _ hR hp fun x dx H1 g1 r1 q1 => ?_
  refine hb W σ env H1 _ _ (hR.go g1) q1 fun y dy H2 g2 r2 q2 => ?_
  refine ho W.m H2 x y dx dy _ _ g2.ok (r1.mv g2.vw rfl) r2 q2 fun z dz H3 g3 rz q3 => ?_
  obtain ⟨c, rfl, q⟩ := q3
  cases (show Dq _ _ z (.bool c) from rz)
  refine ⟨c, rfl, ?_⟩
  cases c with
  | true =>
    rw [if_pos rfl] at q ⊢
    refine hc W σ env H3 _ _ (hR.go ((g1.trans g2).trans g3)) q fun w dw H4 g4 r4 q4 => ?_
    exact ho' W.m H4 y w dy dw _ _ g4.ok ((r2.mv g3.vw rfl).mv g4.vw rfl) r4 q4 fun v d H' g' r p => k v d H' ((((g1.trans g2).trans g3).trans g4).trans g') r p
  | false =>
    rw [if_neg Bool.false_ne_true] at q ⊢
    exact k _ _ H3 ((g1.trans g2).trans g3) (rdp (.bl _)) q
theorem qe_chain {op op' : CmpOp} {r r' : R2} {pr pr' : P2} (ho : OpR X (compareOp op) r) (hs : SO X.K r pr) (ho' : OpR X (compareOp op') r') (hs' : SO X.K r' pr') (ha : QE X B m0 a ta pa) (hb : QE X B m0 c tb pb) (hc : QE X B m0 d tc pc)
    (hm : lastMarks [op, op'] [c, d] = false := by with_unfolding_all rfl) : QE X B m0 (.Compare a [op, op'] [c, d] pos) (tChain r r' ta tb tc) (pChain pr pr' pa pb pc) := ⟨pe_chain ho ho' ha.p hb.p hc.p hm, se_chain (b := bs X B m0) hs hs' ha.s hb.s hc.s⟩
theorem qt_chain {op op' : CmpOp} {r r' : R2} {pr pr' : P2} (ho : OpR X (compareOp op) r) (hs : SO X.K r pr) (ho' : OpR X (compareOp op') r') (hs' : SO X.K r' pr') (ha : QE X B m0 a ta pa) (hb : QE X B m0 c tb pb) (hc : QE X B m0 d tc pc)
    (hm : lastMarks [op, op'] [c, d] = false := by with_unfolding_all rfl) : QT X B m0 (.Compare a [op, op'] [c, d] pos) (tTest (tChain r r' ta tb tc)) (pTest (pChain pr pr' pa pb pc)) := ⟨pt_chain ho ho' ha.p hb.p hc.p hm, st_test (se_chain (b := bs X B m0) hs hs' ha.s hb.s hc.s)⟩
/-- one operand -/
abbrev P1 := D → (D → Prop) → Prop
def SU (K : PySem.W.Frag) (r : V → Hp → VK → Prop) (pr : P1) : Prop := ∀ m H x dx (Q : VK) (P : D → Prop), Ok m H → RD K m H x dx → pr dx P → (∀ v d H', Go m H H' → RD K m H' v d → P d → Q v H') → r x H Q
def pUn (pr : P1) (pa : PTE) : PTE := fun env P => pa env fun x => pr x P
theorem se_un {r : V → Hp → VK → Prop} {pr : P1} (hs : SU b.K r pr) (h : SE b ta pa) : SE b (tUn r ta) (pUn pr pa) := by
  intro W σ env H Q P hR hp k
  refine h W σ env H _ _ hR hp fun x dx H1 g1 r1 q1 => ?_
  exact hs W.m H1 x dx Q _ g1.ok r1 q1 fun v d H' g r p => k v d H' (g1.trans g) r p
theorem qe_un {op : UnaryOp} {r : V → Hp → VK → Prop} {pr : P1} (ho : UnR X (unaryOp op) r) (hs : SU X.K r pr) (ha : QE X B m0 a ta pa) : QE X B m0 (.UnaryOp op a pos) (tUn r ta) (pUn pr pa) := ⟨pe_un ho ha.p, se_un (b := bs X B m0) hs ha.s⟩
/-! ### truth, and, or, not, if -/
def pB (pe : PTE) : PTT := fun env P => pe env fun d => ∃ k, d = .py (.bool k) ∧ P k
theorem qt_val (h : QE X B m0 e te pe) (he : ∀ whole, isTrue e X.env whole = (do let v ← whole; standAt e.pos; holding [v] (truthy v)) := by intro _; rfl) : QT X B m0 e (tB te) (pB pe) := ⟨pt_val h.p he, st_test h.s⟩
/-- the truth of a sequence -/
def pTru (pe : PTE) : PTT := fun env P => pe env fun d => ∃ ds, (d = .py (.list ds) ∨ d = .py (.tuple ds)) ∧ P (!ds.isEmpty)
def pAndT (pt pu : PTT) : PTT := fun env P => pt env fun k => if k = true then pu env P else P false
def pOrT (pt pu : PTT) : PTT := fun env P => pt env fun k => if k = true then P true else pu env P
def pNotT (pt : PTT) : PTT := fun env P => pt env fun k => P (!k)
theorem st_and (h : ST b tt pt) (g : ST b tu pu) : ST b (tAnd tt tu) (pAndT pt pu) := by
  intro W σ env H Q P hR hp k
  refine h W σ env H _ _ hR hp fun c H1 g1 q1 => ?_
  cases c with
  | true =>
    rw [if_pos rfl] at q1 ⊢
    exact g W σ env H1 _ _ (hR.go g1) q1 fun c H2 g2 q2 => k c H2 (g1.trans g2) q2
  | false =>
    rw [if_neg Bool.false_ne_true] at q1 ⊢
    exact k _ H1 g1 q1
theorem st_or (h : ST b tt pt) (g : ST b tu pu) : ST b (tOr tt tu) (pOrT pt pu) := by
  intro W σ env H Q P hR hp k
  refine h W σ env H _ _ hR hp fun c H1 g1 q1 => ?_
  cases c with
  | true =>
    rw [if_pos rfl] at q1 ⊢
    exact k _ H1 g1 q1
  | false =>
    rw [if_neg Bool.false_ne_true] at q1 ⊢
    exact g W σ env H1 _ _ (hR.go g1) q1 fun c H2 g2 q2 => k c H2 (g1.trans g2) q2
theorem st_not (h : ST b tt pt) : ST b (tNot tt) (pNotT pt) := fun W σ env H Q P hR hp k => h W σ env H _ _ hR hp fun c H1 g1 q1 => k (!c) H1 g1 q1
theorem qt_not (h : QT X B m0 e tt pt) : QT X B m0 (.UnaryOp .Not e pos) (tNot tt) (pNotT pt) := ⟨pt_not h.p, st_not h.s⟩
theorem QW.qt (h : QW X B m0 e tt pt) : QT X B m0 e tt pt := ⟨h.p.pt, h.s⟩
theorem qw_and1 (h : QT X B m0 e tt pt) : QW X B m0 (.BoolOp .And [e] pos) tt pt := ⟨pw_and1 h.p, h.s⟩
theorem qw_or1 (h : QT X B m0 e tt pt) : QW X B m0 (.BoolOp .Or [e] pos) tt pt := ⟨pw_or1 h.p, h.s⟩
theorem qw_and {rest : List Expr} (h : QT X B m0 e tt pt) (g : QW X B m0 (.BoolOp .And (a :: rest) pos) tu pu) : QW X B m0 (.BoolOp .And (e :: a :: rest) pos) (tAnd tt tu) (pAndT pt pu) := ⟨pw_and h.p g.p, st_and h.s g.s⟩
theorem qw_or {rest : List Expr} (h : QT X B m0 e tt pt) (g : QW X B m0 (.BoolOp .Or (a :: rest) pos) tu pu) : QW X B m0 (.BoolOp .Or (e :: a :: rest) pos) (tOr tt tu) (pOrT pt pu) := ⟨pw_or h.p g.p, st_or h.s g.s⟩
def pAndV (pa pb : PTE) : PTE := fun env P => pa env fun d => ∃ k, d = .py (.bool k) ∧ if k = true then pb env P else P (.py (.bool false))
def pOrV (pa pb : PTE) : PTE := fun env P => pa env fun d => ∃ k, d = .py (.bool k) ∧ if k = true then P (.py (.bool true)) else pb env P
theorem qe_one {op} (h : QE X B m0 e te pe) : QE X B m0 (.BoolOp op [e] pos) te pe := ⟨pe_one h.p, h.s⟩
theorem se_andV (h : SE b ta pa) (g : SE b tb pb) : SE b (tAndV ta tb) (pAndV pa pb) := by
  intro W σ env H Q P hR hp k
  refine h W σ env H _ _ hR hp fun v d H1 g1 r1 q1 => ?_
  obtain ⟨c, rfl, q⟩ := q1
  cases (show Dq _ _ v (.bool c) from r1)
  refine ⟨c, rfl, ?_⟩
  cases c with
  | true =>
    rw [if_pos rfl] at q ⊢
    exact g W σ env H1 _ _ (hR.go g1) q fun v d H2 g2 r2 q2 => k v d H2 (g1.trans g2) r2 q2
  | false =>
    rw [if_neg Bool.false_ne_true] at q ⊢
    exact k _ _ H1 g1 (rdp (.bl _)) q
theorem se_orV (h : SE b ta pa) (g : SE b tb pb) : SE b (tOrV ta tb) (pOrV pa pb) := by
  intro W σ env H Q P hR hp k
  refine h W σ env H _ _ hR hp fun v d H1 g1 r1 q1 => ?_
  obtain ⟨c, rfl, q⟩ := q1
  cases (show Dq _ _ v (.bool c) from r1)
  refine ⟨c, rfl, ?_⟩
  cases c with
  | true =>
    rw [if_pos rfl] at q ⊢
    exact k _ _ H1 g1 (rdp (.bl _)) q
  | false =>
    rw [if_neg Bool.false_ne_true] at q ⊢
    exact g W σ env H1 _ _ (hR.go g1) q fun v d H2 g2 r2 q2 => k v d H2 (g1.trans g2) r2 q2
theorem qe_and {rest : List Expr} (h : QE X B m0 e ta pa) (g : QE X B m0 (.BoolOp .And (a :: rest) pos) tb pb) : QE X B m0 (.BoolOp .And (e :: a :: rest) pos) (tAndV ta tb) (pAndV pa pb) := ⟨pe_and h.p g.p, se_andV h.s g.s⟩
theorem qe_or {rest : List Expr} (h : QE X B m0 e ta pa) (g : QE X B m0 (.BoolOp .Or (a :: rest) pos) tb pb) : QE X B m0 (.BoolOp .Or (e :: a :: rest) pos) (tOrV ta tb) (pOrV pa pb) := ⟨pe_or h.p g.p, se_orV h.s g.s⟩
def pIfE (pt : PTT) (pa pb : PTE) : PTE := fun env P => pt env fun k => if k = true then pa env P else pb env P
theorem se_ifE (h : ST b tt pt) (f : SE b ta pa) (g : SE b tb pb) : SE b (tIf tt ta tb) (pIfE pt pa pb) := by
  intro W σ env H Q P hR hp k
  refine h W σ env H _ _ hR hp fun c H1 g1 q1 => ?_
  cases c with
  | true =>
    rw [if_pos rfl] at q1 ⊢
    exact f W σ env H1 _ _ (hR.go g1) q1 fun v d H2 g2 r2 q2 => k v d H2 (g1.trans g2) r2 q2
  | false =>
    rw [if_neg Bool.false_ne_true] at q1 ⊢
    exact g W σ env H1 _ _ (hR.go g1) q1 fun v d H2 g2 r2 q2 => k v d H2 (g1.trans g2) r2 q2
theorem qe_ifE (h : QT X B m0 e tt pt) (f : QE X B m0 a ta pa) (g : QE X B m0 c tb pb) : QE X B m0 (.IfExp e a c pos) (tIf tt ta tb) (pIfE pt pa pb) := ⟨pe_ifExp h.p f.p g.p, se_ifE h.s f.s g.s⟩
/-! ### arguments, displays -/
def pNil : PTA := fun env P => P []
def pCons (pe : PTE) (pa : PTA) : PTA := fun env P => pe env fun d => pa env fun ds => P (d :: ds)
theorem sa_nil : SA b tNil pNil := fun W σ env H Q P hR hp k => k _ _ H (.refl hR.ok) .nil hp
theorem sa_cons (h : SE b te pe) (g : SA b tA pA) : SA b (tCons te tA) (pCons pe pA) := by
  intro W σ env H Q P hR hp k
  refine h W σ env H _ _ hR hp fun v d H1 g1 r1 q1 => ?_
  refine g W σ env H1 _ _ (hR.go g1) q1 fun vs ds H2 g2 r2 q2 => ?_
  exact k _ _ H2 (g1.trans g2) (.cons (r1.mv g2.vw rfl) r2) q2
theorem qa_nil : QA X B m0 [] tNil pNil := ⟨pa_nil, sa_nil⟩
theorem qa_cons (h : QE X B m0 e te pe) (g : QA X B m0 es tA pA) (hs : starEach (e :: es) X.env = (false, eval e X.env) :: starEach es X.env := by rfl) : QA X B m0 (e :: es) (tCons te tA) (pCons pe pA) := ⟨pa_cons h.p g.p hs, sa_cons h.s g.s⟩
/-- all of them data -/
def datas : List D → Option (List PyData)
  | [] => some []
  | .py p :: ds => (datas ds).map (p :: ·)
  | _ :: _ => none
theorem rds_datas {K : PySem.W.Frag} {m : Md} {H : Hp} : ∀ {vs : List V} {ds : List D} {ps : List PyData}, RDs K m H vs ds → datas ds = some ps → DqAll K (vw m H) vs ps
  | _, _, _, .nil, e => by cases e; exact .nil
  | _, _, ps, .cons (d := d) (ds := ds) h t, e => by
    cases d with
    | py p =>
      have e' : (datas ds).map (p :: ·) = some ps := e
      cases q : datas ds with
      | none => rw [q] at e'; cases e'
      | some r =>
        rw [q] at e'
        cases e'
        exact .cons h (rds_datas t q)
    | no => cases e
    | rng n => cases e
    | rcd kvs => cases e
    | deck => cases e
    | ext R mono => cases e
    | own ds => cases e
def pTup (pa : PTA) : PTE := fun env P => pa env fun ds => ∃ ps, datas ds = some ps ∧ ps.length ≤ 1000 ∧ P (.py (.tuple ps))
theorem se_tup (h : SA b tA pA) : SE b (tTup tA) (pTup pA) := by
  intro W σ env H Q P hR hp k
  refine h W σ env H _ _ hR hp fun vs ds H1 g1 r1 q1 => ?_
  obtain ⟨ps, e, hl, q⟩ := q1
  have da := rds_datas r1 e
  refine ⟨Nat.le_of_lt (small1000 (by rw [dqa_len da]; exact hl)), fun p hp => ?_⟩
  have g : Go W.m H1 (upd H1 p (.tup vs)) := .new g1.ok hp
  exact k _ _ _ (g1.trans g) (rdp (.tup (SqT.of (vw_new g1.ok hp)) (da.mv g.vw))) q
theorem qe_tup {x1} (h : QA X B m0 es tA pA) : QE X B m0 (.Tuple es x1 pos) (tTup tA) (pTup pA) := ⟨pe_tup h.p, se_tup h.s⟩
theorem vw_add_same {m : Md} {H : Hp} {p : Addr} {o : HO} (h : Ok m H) (hp : H p = none) : Same (vw m H) (vw (m.add p) (upd H p o)) := (Go.new h hp).old hp
/-- where a new thing was laid on the way it was not there at first -/
theorem Go.was {m : Md} {H H' : Hp} {p : Addr} (g : Go m H H') (hp : H' p = none) : H p = none := g.free hp
def pLst (pa : PTA) : PTL := fun env P => pa env fun ds => ∃ ps, datas ds = some ps ∧ ps.length ≤ 1000 ∧ P ps
theorem sf_lst (h : SA b tA pA) : SF b (tLst tA) (pLst pA) := by
  intro W σ env H Q P hR hp k
  refine h W σ env H _ _ hR hp fun vs ds H1 g1 r1 q1 => ?_
  obtain ⟨ps, e, hl, q⟩ := q1
  have da := rds_datas r1 e
  refine ⟨Nat.le_of_lt (small1000 (by rw [dqa_len da]; exact hl)), fun p hp => ?_⟩
  exact k p vs ps _ (g1.trans (.new g1.ok hp)) (g1.free hp) upd_same (da.mv (vw_add_same g1.ok hp)) q
theorem qf_lst (h : QA X B m0 es tA pA) : QF X B m0 (.List es pos) (tLst tA) (pLst pA) := ⟨pe_lst h.p, sf_lst h.s⟩
/-! ### indexes, slices -/
theorem qe_ix {r : R2} {pr : P2} (ho : IxR X r) (hs : SO X.K r pr) (ha : QE X B m0 a ta pa) (hb : QE X B m0 c tb pb) (hp : PlainIx c) : QE X B m0 (.Subscript a c pos) (tOp r ta tb) (pOp pr pa pb) := ⟨pe_ix ho ha.p hb.p hp, se_op (b := bs X B m0) hs ha.s hb.s⟩
abbrev PTO := PEnv → (Option Int → Prop) → Prop
def SOp (b : Bs) (t : TO) (po : PTO) : Prop := ∀ W σ env H (Q : Option Int → Hp → Prop) (P : Option Int → Prop), Rl b W σ env H → po env P →
    (∀ i H', Go W.m H H' → P i → Q i H') → t σ H Q
structure QO (X : Cx) (B : Hp) (m0 : Md) (e : Option Expr) (t : TO) (po : PTO) : Prop where
  p : PO X e t
  s : SOp (bs X B m0) t po
def pNone : PTO := fun env P => P none
def pSome (pe : PTE) : PTO := fun env P => pe env fun d => ∃ i, d = .py (.int i) ∧ P (some i)
theorem so_some (h : SE b te pe) : SOp b (tPart te) (pSome pe) := by
  intro W σ env H Q P hR hp k
  refine h W σ env H _ _ hR hp fun v d H1 g1 r1 q1 => ?_
  obtain ⟨i, rfl, q⟩ := q1
  cases (show Dq _ _ v (.int i) from r1)
  exact ⟨i, rfl, k _ H1 g1 q⟩
theorem qo_none : QO X B m0 none tNoPart pNone := ⟨po_none, fun W σ env H Q P hR hp k => k _ H (.refl hR.ok) hp⟩
theorem qo_some (h : QE X B m0 e te pe) : QO X B m0 (some e) (tPart te) (pSome pe) := ⟨po_some h.p, so_some h.s⟩
abbrev PS3 := D → Option Int → Option Int → (D → Prop) → Prop
def SS3 (K : PySem.W.Frag) (r : V → Option Int → Option Int → Hp → VK → Prop) (pr : PS3) : Prop := ∀ m H x dx lo hi (Q : VK) (P : D → Prop), Ok m H → RD K m H x dx → pr dx lo hi P → (∀ v d H', Go m H H' → RD K m H' v d → P d → Q v H') → r x lo hi H Q
def pSlice (pr : PS3) (pe : PTE) (pl ph : PTO) : PTE := fun env P => pe env fun d => pl env fun lo => ph env fun hi => pr d lo hi P
theorem se_slice {pl ph : PTO} {r : V → Option Int → Option Int → Hp → VK → Prop} {pr : PS3} (hs : SS3 b.K r pr) (h : SE b te pe) (hl : SOp b tl pl) (hh : SOp b th ph) : SE b (tSl r te tl th) (pSlice pr pe pl ph) := by
  intro W σ env H Q P hR hp k
  refine h W σ env H _ _ hR hp fun v d H1 g1 r1 q1 => ?_
  refine hl W σ env H1 _ _ (hR.go g1) q1 fun lo H2 g2 q2 => ?_
  refine hh W σ env H2 _ _ (hR.go (g1.trans g2)) q2 fun hi H3 g3 q3 => ?_
  exact hs W.m H3 v d lo hi Q _ g3.ok ((r1.mv g2.vw rfl).mv g3.vw rfl) q3 fun v' d' H' g r p => k v' d' H' (((g1.trans g2).trans g3).trans g) r p
theorem qe_slice {lo hi : Option Expr} {pl ph : PTO} {p2 : Pos} {r : V → Option Int → Option Int → Hp → VK → Prop} {pr : PS3} (ho : SlR X r) (hs : SS3 X.K r pr) (h : QE X B m0 e te pe) (hl : QO X B m0 lo tl pl) (hh : QO X B m0 hi th ph) : QE X B m0 (.Subscript e (.Slice lo hi none p2) pos) (tSl r te tl th) (pSlice pr pe pl ph) :=
  ⟨pe_slice ho h.p hl.p hh.p, se_slice (b := bs X B m0) hs h.s hl.s hh.s⟩
/-! ### calls of built-ins -/
abbrev PC := List D → (D → Prop) → Prop
def SC (K : PySem.W.Frag) (r : List V → Hp → VK → Prop) (pr : PC) : Prop := ∀ m H xs ds (Q : VK) (P : D → Prop), Ok m H → RDs K m H xs ds → pr ds P → (∀ v d H', Go m H H' → RD K m H' v d → P d → Q v H') → r xs H Q
def pCall (pr : PC) (pa : PTA) : PTE := fun env P => pa env fun ds => pr ds P
theorem se_call {r : List V → Hp → VK → Prop} {pr : PC} (hs : SC b.K r pr) (h : SA b tA pA) : SE b (tCB r tA) (pCall pr pA) := by
  intro W σ env H Q P hR hp k
  refine h W σ env H _ _ hR hp fun vs ds H1 g1 r1 q1 => ?_
  exact hs W.m H1 vs ds Q _ g1.ok r1 q1 fun v d H' g r p => k v d H' (g1.trans g) r p
section
variable {x : Str} {id T : String} {p : Pos} {r : List V → Hp → VK → Prop} {pr : PC}
theorem qe_callB (hc : CallR X (.builtin id) r) (hs : SC X.K r pr) (hg : Gl X x) (hm : X.mg x = none) (hv : bootBuiltins x = some (.builtin id)) (ha : QA X B m0 (e :: es) tA pA) (hn : x ≠ "__name__" := by decide) (hdb : (x == ("__debug__" : Str)) = false := by decide)
    (hst : starEach (e :: es) X.env = (false, eval e X.env) :: starEach es X.env := by rfl) (hpl : (backTo pos (starEach es X.env)).any (·.1) = false := by rfl) : QE X B m0 (.Call (.Name x p) (e :: es) [] pos) (tCB r tA) (pCall pr pA) :=
  ⟨pe_callB hc hg hm hv ha.p hn hdb hst hpl, se_call (b := bs X B m0) hs ha.s⟩
theorem qe_callTy (hc : CallR X (.type T) r) (hs : SC X.K r pr) (hg : Gl X x) (hm : X.mg x = none) (hv : bootBuiltins x = some (.type T)) (ha : QA X B m0 (e :: es) tA pA) (hn : x ≠ "__name__" := by decide) (hdb : (x == ("__debug__" : Str)) = false := by decide)
    (hst : starEach (e :: es) X.env = (false, eval e X.env) :: starEach es X.env := by rfl) (hpl : (backTo pos (starEach es X.env)).any (·.1) = false := by rfl) : QE X B m0 (.Call (.Name x p) (e :: es) [] pos) (tCB r tA) (pCall pr pA) :=
  ⟨pe_callTy hc hg hm hv ha.p hn hdb hst hpl, se_call (b := bs X B m0) hs ha.s⟩
theorem qe_callBfun (hc : CallR X (.builtin id) r) (hs : SC X.K r pr) (hg : Gl X x) (hm : X.mg x = some (.builtin id)) (ha : QA X B m0 (e :: es) tA pA) (hdb : (x == ("__debug__" : Str)) = false := by decide)
    (hst : starEach (e :: es) X.env = (false, eval e X.env) :: starEach es X.env := by rfl) (hpl : (backTo pos (starEach es X.env)).any (·.1) = false := by rfl) : QE X B m0 (.Call (.Name x p) (e :: es) [] pos) (tCB r tA) (pCall pr pA) :=
  ⟨pe_callBfun hc hg hm ha.p hdb hst hpl, se_call (b := bs X B m0) hs ha.s⟩
end
end
end VP

/-! VP3: operations on data -/
namespace VP
open PySem PySem.Spec PyProof.Rows L2 VB VZ VC
section
variable {K : PySem.W.Frag} {m : Md} {H : Hp}
/-- nothing new is made -/
theorem so_flat {r : R2} {pr : P2} (h : ∀ m H x y dx dy (Q : VK) (P : D → Prop), Ok m H → RD K m H x dx → RD K m H y dy → pr dx dy P → (∀ v d, RD K m H v d → P d → Q v H) → r x y H Q) : SO K r pr :=
  fun m H x y dx dy Q P ho rx ry q k => h m H x y dx dy Q P ho rx ry q fun v d rv p => k v d H (.refl ho) rv p
/-- two ints -/
def oI (C : Int → Int → Prop) (g : Int → Int → PyData) : P2 := fun x y P => ∃ a b, x = .py (.int a) ∧ y = .py (.int b) ∧ C a b ∧ P (.py (g a b))
def oI0 (g : Int → Int → PyData) : P2 := fun x y P => ∃ a b, x = .py (.int a) ∧ y = .py (.int b) ∧ P (.py (g a b))
theorem so_I {C : Int → Int → Prop} {g : Int → Int → V} {g' : Int → Int → PyData} (h : ∀ a b H, Dq K H (g a b) (g' a b)) : SO K (rI C g) (oI C g') := so_flat fun m H x y dx dy Q P ho rx ry q k => by
  obtain ⟨a, b, rfl, rfl, c, p⟩ := q
  cases rx.dp
  cases ry.dp
  exact ⟨a, b, rfl, rfl, c, k _ _ (rdp (h a b _)) p⟩
theorem so_I0 {g : Int → Int → V} {g' : Int → Int → PyData} (h : ∀ a b H, Dq K H (g a b) (g' a b)) : SO K (rI0 g) (oI0 g') := so_flat fun m H x y dx dy Q P ho rx ry q k => by
  obtain ⟨a, b, rfl, rfl, p⟩ := q
  cases rx.dp
  cases ry.dp
  exact ⟨a, b, rfl, rfl, k _ _ (rdp (h a b _)) p⟩
abbrev oAdd : P2 := oI0 fun a b => .int (a + b)
abbrev oSub : P2 := oI0 fun a b => .int (a - b)
abbrev oMul : P2 := oI IntMulOk fun a b => .int (a * b)
abbrev oFdiv : P2 := oI CDv fun a b => .int (a.fdiv b)
abbrev oMod : P2 := oI (fun _ b => b ≠ 0) fun a b => .int (a.fmod b)
abbrev oPow : P2 := oI CPow fun a b => .int (a ^ b.toNat)
abbrev oLt : P2 := oI0 fun a b => .bool (decide (a < b))
abbrev oLe : P2 := oI0 fun a b => .bool (decide (a ≤ b))
abbrev oGt : P2 := oI0 fun a b => .bool (decide (b < a))
abbrev oGe : P2 := oI0 fun a b => .bool (decide (b ≤ a))
def so_int (g : Int → Int → Int) : ∀ a b H, Dq K H (.int (g a b)) (.int (g a b)) := fun _ _ _ => .int _
def so_bl (g : Int → Int → Bool) : ∀ a b H, Dq K H (.bl (g a b)) (.bool (g a b)) := fun _ _ _ => .bl _
/-- x == y of plain values -/
def scD : PyData → PyData → Bool
  | .none, .none => true | .none, .int _ => true | .int _, .none => true | .none, .bool _ => true | .bool _, .none => true | .none, .str _ => true | .str _, .none => true
  | .int _, .int _ => true | .bool _, .bool _ => true | .str _, .str _ => true
  | .int _, .str _ => true | .str _, .int _ => true | .bool _, .str _ => true | .str _, .bool _ => true
  | _, _ => false
def sEq : PyData → PyData → Bool
  | .none, .none => true
  | .int a, .int b => decide (a = b)
  | .bool a, .bool b => decide (a = b)
  | .str a, .str b => decide (a = b)
  | _, _ => false
theorem scal_of {x y : V} {p q : PyData} (hx : Dq K H x p) (hy : Dq K H y q) (h : scD p q = true) : scal x y = true ∧ decide (x = y) = sEq p q := by
  cases hx <;> cases hy <;> first | (cases h; done) | (refine ⟨rfl, ?_⟩; simp [sEq])
def oEq : P2 := fun x y P => ∃ p q, x = .py p ∧ y = .py q ∧ scD p q = true ∧ P (.py (.bool (sEq p q)))
def oNe : P2 := fun x y P => ∃ p q, x = .py p ∧ y = .py q ∧ scD p q = true ∧ P (.py (.bool (!sEq p q)))
theorem so_eq : SO K rEq oEq := so_flat fun m H x y dx dy Q P ho rx ry q k => by
  obtain ⟨p, p', rfl, rfl, c, h⟩ := q
  obtain ⟨h1, h2⟩ := scal_of rx.dp ry.dp c
  exact ⟨h1, k _ _ (rdp (by rw [h2]; exact .bl _)) h⟩
theorem so_ne : SO K rNe oNe := so_flat fun m H x y dx dy Q P ho rx ry q k => by
  obtain ⟨p, p', rfl, rfl, c, h⟩ := q
  obtain ⟨h1, h2⟩ := scal_of rx.dp ry.dp c
  exact ⟨h1, k _ _ (rdp (by rw [h2]; exact .bl _)) h⟩
/-- x == y of data -/
def oEqD : P2 := fun x y P => ∃ p q, x = .py p ∧ y = .py q ∧ SeqAt.shaped p = true ∧ SeqAt.shaped q = true ∧ P (.py (.bool (PyData.eqv p q)))
def oNeD : P2 := fun x y P => ∃ p q, x = .py p ∧ y = .py q ∧ SeqAt.shaped p = true ∧ SeqAt.shaped q = true ∧ P (.py (.bool (!PyData.eqv p q)))
theorem so_eqD : SO K (rEqD K) oEqD := so_flat fun m H x y dx dy Q P ho rx ry q k => by
  obtain ⟨p, p', rfl, rfl, c, d, h⟩ := q
  exact ⟨p, p', (rx.dp.mv vw_sub).dp (PyData.hasDict_of_canLay _ (SeqAt.canLay_of_shaped c)), (ry.dp.mv vw_sub).dp (PyData.hasDict_of_canLay _ (SeqAt.canLay_of_shaped d)), c, d, k _ _ (rdp (.bl _)) h⟩
theorem so_neD : SO K (rNeD K) oNeD := so_flat fun m H x y dx dy Q P ho rx ry q k => by
  obtain ⟨p, p', rfl, rfl, c, d, h⟩ := q
  exact ⟨p, p', (rx.dp.mv vw_sub).dp (PyData.hasDict_of_canLay _ (SeqAt.canLay_of_shaped c)), (ry.dp.mv vw_sub).dp (PyData.hasDict_of_canLay _ (SeqAt.canLay_of_shaped d)), c, d, k _ _ (rdp (.bl _)) h⟩
/-- x is None -/
def isNoneD : PyData → Bool
  | .none => true
  | _ => false
theorem nonD {x : V} {p : PyData} (h : Dq K H x p) : decide (x = .non) = isNoneD p := by
  cases h <;> simp [isNoneD]
def oIsN : P2 := fun x y P => ∃ p, x = .py p ∧ y = .py .none ∧ P (.py (.bool (isNoneD p)))
def oNotN : P2 := fun x y P => ∃ p, x = .py p ∧ y = .py .none ∧ P (.py (.bool (!isNoneD p)))
theorem so_isN : SO K (fun x y H Q => y = V.non ∧ Q (V.bl (decide (x = V.non))) H) oIsN := so_flat fun m H x y dx dy Q P ho rx ry q k => by
  obtain ⟨p, rfl, rfl, h⟩ := q
  cases ry.dp
  exact ⟨rfl, k _ _ (rdp (by rw [nonD rx.dp]; exact .bl _)) h⟩
theorem so_notN : SO K (fun x y H Q => y = V.non ∧ Q (V.bl (!decide (x = V.non))) H) oNotN := so_flat fun m H x y dx dy Q P ho rx ry q k => by
  obtain ⟨p, rfl, rfl, h⟩ := q
  cases ry.dp
  exact ⟨rfl, k _ _ (rdp (by rw [nonD rx.dp]; exact .bl _)) h⟩
/-- texts -/
def oCatS : P2 := fun x y P => ∃ a b : Str, x = .py (.str a) ∧ y = .py (.str b) ∧ a.length + b.length ≤ sizeLine ∧ P (.py (.str (a ++ b)))
theorem so_catS : SO K (fun x y H Q => ∃ i j : Str, x = V.str i ∧ y = V.str j ∧ i.length + j.length ≤ sizeLine ∧ Q (V.str (i ++ j)) H) oCatS := so_flat fun m H x y dx dy Q P ho rx ry q k => by
  obtain ⟨a, b, rfl, rfl, c, h⟩ := q
  cases rx.dp
  cases ry.dp
  exact ⟨a, b, rfl, rfl, c, k _ _ (rdp (.str _)) h⟩
def oS (g : Str → Str → Bool) : P2 := fun x y P => ∃ a b : Str, x = .py (.str a) ∧ y = .py (.str b) ∧ P (.py (.bool (g a b)))
theorem so_S {g : Str → Str → Bool} : SO K (fun x y H Q => ∃ i j : Str, x = V.str i ∧ y = V.str j ∧ Q (V.bl (g i j)) H) (oS g) := so_flat fun m H x y dx dy Q P ho rx ry q k => by
  obtain ⟨a, b, rfl, rfl, h⟩ := q
  cases rx.dp
  cases ry.dp
  exact ⟨a, b, rfl, rfl, k _ _ (rdp (.bl _)) h⟩
/-- lists, tuples -/
def oCatL : P2 := fun x y P => ∃ a b, x = .py (.list a) ∧ y = .py (.list b) ∧ a.length + b.length ≤ 1000 ∧ P (.py (.list (a ++ b)))
theorem so_catL : SO K rCat oCatL := fun m H x y dx dy Q P ho rx ry q k => by
  obtain ⟨a, b, rfl, rfl, c, h⟩ := q
  obtain ⟨p1, xs, rfl, e1, a1⟩ := dq_lst rx.dp
  obtain ⟨p2, ys, rfl, e2, a2⟩ := dq_lst ry.dp
  refine ⟨p1, p2, xs, ys, rfl, rfl, vw_sub _ _ e1, vw_sub _ _ e2, Nat.le_of_lt (small1000 (by rw [dqa_len a1, dqa_len a2]; exact c)), fun p hp => ?_⟩
  have g : Go m H (upd H p (.lst (xs ++ ys))) := .new ho hp
  exact k _ _ _ g (rdp (.lst (vw_new ho hp) ((dqa_app a1 a2).mv g.vw))) h
def oCatT : P2 := fun x y P => ∃ a b, x = .py (.tuple a) ∧ y = .py (.tuple b) ∧ a.length + b.length ≤ 1000 ∧ P (.py (.tuple (a ++ b)))
theorem so_catT : SO K (rCatA K) oCatT := fun m H x y dx dy Q P ho rx ry q k => by
  obtain ⟨a, b, rfl, rfl, c, h⟩ := q
  obtain ⟨p1, xs, rfl, e1, a1⟩ := dq_tup rx.dp
  obtain ⟨p2, ys, rfl, e2, a2⟩ := dq_tup ry.dp
  refine ⟨p1, p2, xs, ys, rfl, rfl, seqT_same vw_sub e1, seqT_same vw_sub e2, Nat.le_of_lt (small1000 (by rw [dqa_len a1, dqa_len a2]; exact c)), fun z => ?_, fun _ z => ?_, fun _ _ p hp => ?_⟩
  · subst z
    cases a1
    exact k _ _ _ (.refl ho) (rdp (.tup e2 a2)) h
  · subst z
    cases a2
    rw [List.append_nil] at h
    exact k _ _ _ (.refl ho) (rdp (.tup e1 a1)) h
  · have g : Go m H (upd H p (.tup (xs ++ ys))) := .new ho hp
    exact k _ _ _ g (rdp (.tup (SqT.of (vw_new ho hp)) ((dqa_app a1 a2).mv g.vw))) h
def oRepL : P2 := fun x y P => ∃ a n, x = .py (.list a) ∧ y = .py (.int n) ∧ a.length ≤ 1000 ∧ a.length * n.toNat ≤ 1000 ∧ -1000 ≤ n ∧ n ≤ 1000 ∧ P (.py (.list (List.replicate n.toNat a).flatten))
theorem so_repL : SO K rRep oRepL := fun m H x y dx dy Q P ho rx ry q k => by
  obtain ⟨a, n, rfl, rfl, _, c, n1, n2, h⟩ := q
  obtain ⟨p1, xs, rfl, e1, a1⟩ := dq_lst rx.dp
  cases ry.dp
  refine ⟨p1, n, xs, rfl, rfl, vw_sub _ _ e1, by omega, by omega, Nat.le_of_lt (small1000 (by rw [dqa_len a1]; exact c)), fun p hp => ?_⟩
  have g : Go m H (upd H p (.lst (List.replicate n.toNat xs).flatten)) := .new ho hp
  exact k _ _ _ g (rdp (.lst (vw_new ho hp) ((dqa_rep _ a1).mv g.vw))) h
def oRepT : P2 := fun x y P => ∃ a n, x = .py (.tuple a) ∧ y = .py (.int n) ∧ a ≠ [] ∧ 2 ≤ n ∧ n ≤ 1000 ∧ a.length ≤ 1000 ∧ P (.py (.tuple (List.replicate n.toNat a).flatten))
theorem so_repT : SO K (rRepT K) oRepT := fun m H x y dx dy Q P ho rx ry q k => by
  obtain ⟨a, n, rfl, rfl, c, n1, n2, c2, h⟩ := q
  obtain ⟨p1, xs, rfl, e1, a1⟩ := dq_tup rx.dp
  cases ry.dp
  refine ⟨p1, n, xs, rfl, rfl, seqT_same vw_sub e1, fun z => c (by rw [z] at a1; cases a1; rfl), n1, n2, by rw [dqa_len a1]; exact c2, fun p hp => ?_⟩
  have g : Go m H (upd H p (.tup (List.replicate n.toNat xs).flatten)) := .new ho hp
  exact k _ _ _ g (rdp (.tup (SqT.of (vw_new ho hp)) ((dqa_rep _ a1).mv g.vw))) h
/-- items -/
theorem atI_get {α β : Type} {xs : List α} {ys : List β} (h : xs.length = ys.length) {i : Int} {y : β} (e : atI ys i = some y) : ∃ j : Nat, ys[j]? = some y ∧ ∀ x, xs[j]? = some x → atI xs i = some x := by
  unfold atI at e ⊢
  rw [h]
  cases q : ixN ys.length i with
  | none => rw [q] at e; cases e
  | some j =>
    rw [q] at e
    exact ⟨j, e, fun x hx => hx⟩
def oIxL : P2 := fun x y P => ∃ a n z, x = .py (.list a) ∧ y = .py (.int n) ∧ atI a n = some z ∧ P (.py z)
def oIxT : P2 := fun x y P => ∃ a n z, x = .py (.tuple a) ∧ y = .py (.int n) ∧ atI a n = some z ∧ P (.py z)
theorem dqa_at {vs : List V} {ds : List PyData} {n : Int} {z : PyData} (a : DqAll K H vs ds) (e : atI ds n = some z) : ∃ v, atI vs n = some v ∧ Dq K H v z := by
  obtain ⟨j, h1, h2⟩ := atI_get (dqa_len a) e
  obtain ⟨v, h3, h4⟩ := dqa_get' a h1
  exact ⟨v, h2 v h3, h4⟩
theorem so_ixL : SO K (rIxL K) oIxL := so_flat fun m H x y dx dy Q P ho rx ry q k => by
  obtain ⟨a, n, z, rfl, rfl, e, h⟩ := q
  obtain ⟨p1, xs, rfl, e1, a1⟩ := dq_lst rx.dp
  cases ry.dp
  obtain ⟨v, h1, h2⟩ := dqa_at a1 e
  exact ⟨p1, xs, n, v, rfl, rfl, SqL.of (vw_sub _ _ e1), h1, k _ _ (rdp h2) h⟩
theorem so_ixT : SO K (rIxT K) oIxT := so_flat fun m H x y dx dy Q P ho rx ry q k => by
  obtain ⟨a, n, z, rfl, rfl, e, h⟩ := q
  obtain ⟨p1, xs, rfl, e1, a1⟩ := dq_tup rx.dp
  cases ry.dp
  obtain ⟨v, h1, h2⟩ := dqa_at a1 e
  exact ⟨p1, xs, n, v, rfl, rfl, seqT_same vw_sub e1, h1, k _ _ (rdp h2) h⟩
def oIxS : P2 := fun x y P => ∃ (a : Str) (n : Int) (c : Nat), x = .py (.str a) ∧ y = .py (.int n) ∧ a.length ≤ sizeLine ∧ atI a.cps.toList n = some c ∧ P (.py (.str ⟨#[c]⟩))
theorem so_ixS : SO K rIxS oIxS := so_flat fun m H x y dx dy Q P ho rx ry q k => by
  obtain ⟨a, n, z, rfl, rfl, e, e2, h⟩ := q
  cases rx.dp
  cases ry.dp
  exact ⟨a, n, z, rfl, rfl, e, e2, k _ _ (rdp (.str _)) h⟩
/-- slices -/
def cutD (ds : List PyData) (lo hi : Option Int) : List PyData := (ds.drop (HT.sIx ds.length 0 lo)).take (HT.sIx ds.length ds.length hi - HT.sIx ds.length 0 lo)
theorem dqa_cut {vs : List V} {ds : List PyData} (a : DqAll K H vs ds) (lo hi : Option Int) : DqAll K H (cutV vs lo hi) (cutD ds lo hi) := by
  unfold cutV cutD
  rw [dqa_len a]
  exact dqa_take _ (dqa_drop _ a)
def oSlL : PS3 := fun x lo hi P => ∃ a, x = .py (.list a) ∧ P (.py (.list (cutD a lo hi)))
theorem ss_slL : SS3 K (rSlL K) oSlL := fun m H x dx lo hi Q P ho rx q k => by
  obtain ⟨a, rfl, h⟩ := q
  obtain ⟨p1, xs, rfl, e1, a1⟩ := dq_lst rx.dp
  refine ⟨p1, xs, rfl, SqL.of (vw_sub _ _ e1), fun p hp => ?_⟩
  have g : Go m H (upd H p (.lst (cutV xs lo hi))) := .new ho hp
  exact k _ _ _ g (rdp (.lst (vw_new ho hp) ((dqa_cut a1 lo hi).mv g.vw))) h
def oSlT : PS3 := fun x lo hi P => ∃ a, x = .py (.tuple a) ∧ P (.py (.tuple (cutD a lo hi)))
theorem cut_whole {ds : List PyData} {lo hi : Option Int} (h : HT.sIx ds.length 0 lo = 0 ∧ HT.sIx ds.length ds.length hi = ds.length) : cutD ds lo hi = ds := by
  unfold cutD
  rw [h.1, h.2, List.drop_zero, Nat.sub_zero, List.take_length]
theorem ss_slT : SS3 K (rSlA K) oSlT := fun m H x dx lo hi Q P ho rx q k => by
  obtain ⟨a, rfl, h⟩ := q
  obtain ⟨p1, xs, rfl, e1, a1⟩ := dq_tup rx.dp
  refine ⟨p1, xs, rfl, seqT_same vw_sub e1, fun w => ?_, fun _ p hp => ?_⟩
  · rw [dqa_len a1] at w
    rw [cut_whole w] at h
    exact k _ _ _ (.refl ho) (rdp (.tup e1 a1)) h
  · have g : Go m H (upd H p (.tup (cutV xs lo hi))) := .new ho hp
    exact k _ _ _ g (rdp (.tup (SqT.of (vw_new ho hp)) ((dqa_cut a1 lo hi).mv g.vw))) h
def oSlS : PS3 := fun x lo hi P => ∃ a : Str, x = .py (.str a) ∧ a.length ≤ sizeLine ∧ P (.py (.str (cutS a lo hi)))
theorem ss_slS : SS3 K rSlS oSlS := fun m H x dx lo hi Q P ho rx q k => by
  obtain ⟨a, rfl, e, h⟩ := q
  cases rx.dp
  exact ⟨a, rfl, e, k _ _ _ (.refl ho) (rdp (.str _)) h⟩
/-! ### built-ins -/
theorem sc_flat {r : List V → Hp → VK → Prop} {pr : PC} (h : ∀ m H xs ds (Q : VK) (P : D → Prop), Ok m H → RDs K m H xs ds → pr ds P → (∀ v d, RD K m H v d → P d → Q v H) → r xs H Q) : SC K r pr :=
  fun m H xs ds Q P ho rx q k => h m H xs ds Q P ho rx q fun v d rv p => k v d H (.refl ho) rv p
theorem rds1 {xs : List V} {d : D} (h : RDs K m H xs [d]) : ∃ v, xs = [v] ∧ RD K m H v d := by
  cases h with
  | cons h1 h2 => cases h2; exact ⟨_, rfl, h1⟩
theorem rds2 {xs : List V} {d e : D} (h : RDs K m H xs [d, e]) : ∃ v w, xs = [v, w] ∧ RD K m H v d ∧ RD K m H w e := by
  cases h with
  | cons h1 h2 =>
    cases h2 with
    | cons h2 h3 => cases h3; exact ⟨_, _, rfl, h1, h2⟩
def oLen : PC := fun ds P => ∃ a, (ds = [.py (.list a)] ∨ ds = [.py (.tuple a)]) ∧ P (.py (.int a.length))
theorem sc_len : SC K (VB.rLen K) oLen := sc_flat fun m H xs ds Q P ho rx q k => by
  obtain ⟨a, rfl | rfl, h⟩ := q
  · obtain ⟨v, rfl, r⟩ := rds1 rx
    obtain ⟨p1, xs, rfl, e1, a1⟩ := dq_lst r.dp
    exact ⟨p1, xs, rfl, .inl (SqL.of (vw_sub _ _ e1)), k _ _ (rdp (by rw [dqa_len a1]; exact .int _)) h⟩
  · obtain ⟨v, rfl, r⟩ := rds1 rx
    obtain ⟨p1, xs, rfl, e1, a1⟩ := dq_tup r.dp
    exact ⟨p1, xs, rfl, .inr (seqT_same vw_sub e1), k _ _ (rdp (by rw [dqa_len a1]; exact .int _)) h⟩
def oLenS : PC := fun ds P => ∃ a : Str, ds = [.py (.str a)] ∧ a.length ≤ sizeLine ∧ P (.py (.int a.length))
theorem sc_lenS : SC K (fun xs H Q => ∃ z : Str, xs = [V.str z] ∧ z.length ≤ sizeLine ∧ Q (V.int z.length) H) oLenS := sc_flat fun m H xs ds Q P ho rx q k => by
  obtain ⟨a, rfl, e, h⟩ := q
  obtain ⟨v, rfl, r⟩ := rds1 rx
  cases r.dp
  exact ⟨a, rfl, e, k _ _ (rdp (.int _)) h⟩
def oAbs : PC := fun ds P => ∃ a, ds = [.py (.int a)] ∧ P (.py (.int (if a < 0 then -a else a)))
theorem sc_abs : SC K rAbs oAbs := sc_flat fun m H xs ds Q P ho rx q k => by
  obtain ⟨a, rfl, h⟩ := q
  obtain ⟨v, rfl, r⟩ := rds1 rx
  cases r.dp
  exact ⟨a, rfl, k _ _ (rdp (.int _)) h⟩
def intOf : PyData → Option Int
  | .int a => some a
  | .bool b => some (if b then 1 else 0)
  | _ => none
def oInt : PC := fun ds P => ∃ p a, ds = [.py p] ∧ intOf p = some a ∧ P (.py (.int a))
theorem sc_int : SC K rInt oInt := sc_flat fun m H xs ds Q P ho rx q k => by
  obtain ⟨p, a, rfl, e, h⟩ := q
  obtain ⟨v, rfl, r⟩ := rds1 rx
  cases p with
  | int i => cases r.dp; cases e; exact .inl ⟨_, rfl, k _ _ (rdp (.int _)) h⟩
  | bool c => cases r.dp; cases e; exact .inr ⟨_, rfl, k _ _ (rdp (.int _)) h⟩
  | none => cases e
  | str x => cases e
  | list x => cases e
  | tuple x => cases e
  | dict x => cases e
def oRepr : PC := fun ds P => ∃ p, ds = [.py p] ∧ showB p = true ∧ p.shown.length ≤ sizeLine ∧ p.depth < 60 ∧ P (.py (.str p.shown))
theorem sc_repr : SC K (rRepr K) oRepr := sc_flat fun m H xs ds Q P ho rx q k => by
  obtain ⟨p, rfl, e1, e2, e3, h⟩ := q
  obtain ⟨v, rfl, r⟩ := rds1 rx
  exact ⟨v, p, rfl, (r.dp.mv vw_sub).dx, e1, e2, e3, k _ _ (rdp (.str _)) h⟩
def oTupOf : PC := fun ds P => ∃ a, (ds = [.py (.list a)] ∨ ds = [.py (.tuple a)]) ∧ P (.py (.tuple a))
theorem sc_tupOf : SC K (rTupOf K) oTupOf := fun m H xs ds Q P ho rx q k => by
  obtain ⟨a, rfl | rfl, h⟩ := q
  · obtain ⟨v, rfl, r⟩ := rds1 rx
    obtain ⟨p1, xs, rfl, e1, a1⟩ := dq_lst r.dp
    refine ⟨p1, xs, rfl, .inl ⟨SqL.of (vw_sub _ _ e1), fun p hp => ?_⟩⟩
    have g : Go m H (upd H p (.tup xs)) := .new ho hp
    exact k _ _ _ g (rdp (.tup (SqT.of (vw_new ho hp)) (a1.mv g.vw))) h
  · obtain ⟨v, rfl, r⟩ := rds1 rx
    obtain ⟨p1, xs, rfl, e1, a1⟩ := dq_tup r.dp
    exact ⟨p1, xs, rfl, .inr ⟨seqT_same vw_sub e1, k _ _ _ (.refl ho) (rdp (.tup e1 a1)) h⟩⟩
/-- list(x): new -/
abbrev PCL := List D → (List PyData → Prop) → Prop
def SCL (K : PySem.W.Frag) (r : List V → Hp → VK → Prop) (pr : PCL) : Prop := ∀ m H xs ds (Q : VK) (P : List PyData → Prop), Ok m H → RDs K m H xs ds → pr ds P → (∀ p vs ps, H p = none → DqAll K (vw m H) vs ps → P ps → Q (.ref p) (upd H p (.lst vs))) → r xs H Q
def pCallL (pr : PCL) (pa : PTA) : PTL := fun env P => pa env fun ds => pr ds P
theorem sf_call {b : Bs} {r : List V → Hp → VK → Prop} {pr : PCL} {tA : TA} {pA : PTA} (hs : SCL b.K r pr) (h : SA b tA pA) : SF b (tCB r tA) (pCallL pr pA) := by
  intro W σ env H Q P hR hp k
  refine h W σ env H _ _ hR hp fun vs ds H1 g1 r1 q1 => ?_
  refine hs W.m H1 vs ds Q _ g1.ok r1 q1 fun p ws ps hp da q => ?_
  exact k p ws ps _ (g1.trans (.new g1.ok hp)) (g1.free hp) upd_same (da.mv (vw_add_same g1.ok hp)) q
def oListOf : PCL := fun ds P => ∃ a, (ds = [.py (.list a)] ∨ ds = [.py (.tuple a)]) ∧ P a
theorem sc_listOf : SCL K (rListOf K) oListOf := fun m H xs ds Q P ho rx q k => by
  obtain ⟨a, rfl | rfl, h⟩ := q
  · obtain ⟨v, rfl, r⟩ := rds1 rx
    obtain ⟨p1, xs, rfl, e1, a1⟩ := dq_lst r.dp
    exact ⟨p1, xs, rfl, .inl (SqL.of (vw_sub _ _ e1)), fun p hp => k p xs a hp a1 h⟩
  · obtain ⟨v, rfl, r⟩ := rds1 rx
    obtain ⟨p1, xs, rfl, e1, a1⟩ := dq_tup r.dp
    exact ⟨p1, xs, rfl, .inr (seqT_same vw_sub e1), fun p hp => k p xs a hp a1 h⟩
def sgD (c : Nat) : PyData := .str ⟨#[c]⟩
theorem dqa_sgs : ∀ cs : List Nat, DqAll K H (cs.map fun c => V.str ⟨#[c]⟩) (cs.map sgD)
  | [] => .nil
  | c :: r => .cons (.str _) (dqa_sgs r)
def oListS : PCL := fun ds P => ∃ a : Str, ds = [.py (.str a)] ∧ a.cps.size ≤ sizeLine ∧ P (a.cps.toList.map sgD)
theorem sc_listS : SCL K VZ.rListS oListS := fun m H xs ds Q P ho rx q k => by
  obtain ⟨a, rfl, e, h⟩ := q
  obtain ⟨v, rfl, r⟩ := rds1 rx
  cases r.dp
  exact ⟨a, rfl, e, fun p hp => k p _ _ hp (dqa_sgs _) h⟩
def oSum : PC := fun ds P => ∃ ns : List Int, (ds = [.py (.list (ns.map .int))] ∨ ds = [.py (.tuple (ns.map .int))]) ∧ P (.py (.int ns.sum))
theorem sc_sum : SC K (rSumT K) oSum := sc_flat fun m H xs ds Q P ho rx q k => by
  obtain ⟨ns, rfl | rfl, h⟩ := q
  · obtain ⟨v, rfl, r⟩ := rds1 rx
    obtain ⟨p1, xs, rfl, e1, a1⟩ := dq_lst r.dp
    rw [dqa_ints_inv a1] at e1
    exact ⟨p1, ns, rfl, .inl (SqL.of (vw_sub _ _ e1)), k _ _ (rdp (.int _)) h⟩
  · obtain ⟨v, rfl, r⟩ := rds1 rx
    obtain ⟨p1, xs, rfl, e1, a1⟩ := dq_tup r.dp
    rw [dqa_ints_inv a1] at e1
    exact ⟨p1, ns, rfl, .inr (seqT_same vw_sub e1), k _ _ (rdp (.int _)) h⟩
def oAll : PC := fun ds P => ∃ bs : List Bool, ds = [.py (.list (bs.map .bool))] ∧ P (.py (.bool (bs.all id)))
theorem sc_all : SC K (rAll K) oAll := sc_flat fun m H xs ds Q P ho rx q k => by
  obtain ⟨bs, rfl, h⟩ := q
  obtain ⟨v, rfl, r⟩ := rds1 rx
  obtain ⟨p1, xs, rfl, e1, a1⟩ := dq_lst r.dp
  rw [dqa_bls_inv a1] at e1
  exact ⟨p1, bs, rfl, SqL.of (vw_sub _ _ e1), k _ _ (rdp (.bl _)) h⟩
def oAny : PC := fun ds P => ∃ bs : List Bool, ds = [.py (.list (bs.map .bool))] ∧ P (.py (.bool (bs.any id)))
theorem sc_any : SC K (rAny K) oAny := sc_flat fun m H xs ds Q P ho rx q k => by
  obtain ⟨bs, rfl, h⟩ := q
  obtain ⟨v, rfl, r⟩ := rds1 rx
  obtain ⟨p1, xs, rfl, e1, a1⟩ := dq_lst r.dp
  rw [dqa_bls_inv a1] at e1
  exact ⟨p1, bs, rfl, SqL.of (vw_sub _ _ e1), k _ _ (rdp (.bl _)) h⟩
def oGcd : PC := fun ds P => ∃ a b, ds = [.py (.int a), .py (.int b)] ∧ P (.py (.int (gcdI a b)))
theorem sc_gcd : SC K rGcd oGcd := sc_flat fun m H xs ds Q P ho rx q k => by
  obtain ⟨a, c, rfl, h⟩ := q
  obtain ⟨v, w, rfl, r1, r2⟩ := rds2 rx
  cases r1.dp
  cases r2.dp
  exact ⟨a, c, rfl, k _ _ (rdp (.int _)) h⟩
def oLcm : PC := fun ds P => ∃ a b, ds = [.py (.int a), .py (.int b)] ∧ a.natAbs < 2 ^ 64 ∧ b.natAbs < 2 ^ 64 ∧ P (.py (.int (lcmI a b)))
theorem sc_lcm : SC K rLcm oLcm := sc_flat fun m H xs ds Q P ho rx q k => by
  obtain ⟨a, c, rfl, ha, hc, h⟩ := q
  obtain ⟨v, w, rfl, r1, r2⟩ := rds2 rx
  cases r1.dp
  cases r2.dp
  exact ⟨a, c, rfl, ha, hc, k _ _ (rdp (.int _)) h⟩
def oSortS : PC := fun ds P => ∃ xs : List Str, ds = [.py (.list (xs.map .str))] ∧ xs.length < 64 ∧ ∀ ys : List Str, ys.Perm xs → sortedS ys = true → P (.py (.list (ys.map .str)))
theorem dqa_strs : ∀ ns : List Str, DqAll K H (ns.map V.str) (ns.map PyData.str)
  | [] => .nil
  | n :: r => .cons (.str n) (dqa_strs r)
theorem sc_sortS : SC K (rSortedS K) oSortS := fun m H xs ds Q P ho rx q k => by
  obtain ⟨ss, rfl, hl, h⟩ := q
  obtain ⟨v, rfl, r⟩ := rds1 rx
  obtain ⟨p1, xs, rfl, e1, a1⟩ := dq_lst r.dp
  rw [dqa_strs_inv a1] at e1
  refine ⟨p1, ss, rfl, SqL.of (vw_sub _ _ e1), hl, fun ys p pm so hp => ?_⟩
  have g : Go m H (upd H p (.lst (ys.map V.str))) := .new ho hp
  exact k _ _ _ g (rdp (.lst (vw_new ho hp) (dqa_strs ys))) (h ys pm so)
def oRange : PC := fun ds P => ∃ n, ds = [.py (.int n)] ∧ P (.rng n)
theorem sc_range : SC K rRange1 oRange := fun m H xs ds Q P ho rx q k => by
  obtain ⟨n, rfl, h⟩ := q
  obtain ⟨v, rfl, r⟩ := rds1 rx
  cases r.dp
  refine ⟨n, rfl, fun p hp => ?_⟩
  exact k _ _ _ (.new ho hp) (show RD K m _ _ (.rng n) from ⟨p, rfl, vw_new ho hp⟩) h
def oNeg : P1 := fun x P => ∃ a, x = .py (.int a) ∧ P (.py (.int (-a)))
theorem su_neg : SU K (rU fun i => V.int (-i)) oNeg := fun m H x dx Q P ho rx q k => by
  obtain ⟨a, rfl, h⟩ := q
  cases rx.dp
  exact ⟨a, rfl, k _ _ _ (.refl ho) (rdp (.int _)) h⟩
end
end VP

/-! VP4: walks, comprehensions, statements, calls, defs -/
namespace VP
open PySem PySem.Spec PyProof.Rows L2 VB VZ VC RT
/-! ### what is walked -/
structure ItR (K : PySem.W.Frag) (Vb : Hp) (J : It) (xs : List PyData) : Prop where
  go : ∀ i H', i < xs.length → Same Vb H' → J.go i H'
  stop : ∀ H', Same Vb H' → J.stop xs.length H'
  yld : ∀ i H' x H2 m, i < xs.length → Ok m H' → Same Vb (vw m H') → J.yld i H' x H2 → ∃ d, xs[i]? = some d ∧ Go m H' H2 ∧ Dq K (vw m H2) x d
def SI (b : Bs) (wi : TI) (pi : PTL) : Prop := ∀ W σ env H (R : It → Hp → Prop) (P : List PyData → Prop), Rl b W σ env H → pi env P →
  (∀ J xs H', Go W.m H H' → ItR b.K (vw W.m H') J xs → P xs → R J H') → wi σ H R
structure QI (X : Cx) (B : Hp) (m0 : Md) (tg iter : Expr) (wi : TI) (pi : PTL) : Prop where
  p : PI X tg iter wi
  s : SI (bs X B m0) wi pi
section
variable {K : PySem.W.Frag} {m : Md} {H Vb : Hp} {J : It} {xs : List PyData} {vs : List V} {a : Addr}
theorem it_lst (h : Vb a = some (.lst vs)) (da : DqAll K Vb vs xs) : ItR K Vb (Itl K a) xs where
  go := fun i H' hi e => by
    obtain ⟨v, hv, _⟩ := dqa_get' da (List.getElem?_eq_getElem hi)
    exact ⟨vs, v, SqL.of (e _ _ h), hv⟩
  stop := fun H' e => ⟨vs, SqL.of (e _ _ h), by rw [dqa_len da]; exact Nat.le_refl _⟩
  yld := fun i H' x H2 m hi ho e y => by
    obtain ⟨rfl, y2⟩ := y
    have hx := y2 vs (SqL.of (vw_sub _ _ (e _ _ h)))
    obtain ⟨d, hd, dx⟩ := dqa_get da hx
    exact ⟨d, hd, .refl ho, dx.mv e⟩
theorem it_tup (h : SqT K Vb a vs) (da : DqAll K Vb vs xs) : ItR K Vb (Itt K a) xs where
  go := fun i H' hi e => by
    obtain ⟨v, hv, _⟩ := dqa_get' da (List.getElem?_eq_getElem hi)
    exact ⟨vs, v, seqT_same e h, hv⟩
  stop := fun H' e => ⟨vs, seqT_same e h, by rw [dqa_len da]; exact Nat.le_refl _⟩
  yld := fun i H' x H2 m hi ho e y => by
    obtain ⟨rfl, y2⟩ := y
    have hx := y2 vs (seqT_same (e.trans vw_sub) h)
    obtain ⟨d, hd, dx⟩ := dqa_get da hx
    exact ⟨d, hd, .refl ho, dx.mv e⟩
theorem rev_at {α : Type} {l : List α} {i : Nat} (h : i < l.length) : l.reverse[i]? = l[l.length - 1 - i]? := by
  rw [List.getElem?_reverse h]
theorem it_revL (h : Vb a = some (.lst vs)) (da : DqAll K Vb vs xs) : ItR K Vb (Itv K a vs.length) xs.reverse where
  go := fun i H' hi e => by
    have hl := dqa_len da
    rw [List.length_reverse] at hi
    refine ⟨by omega, vs, vs[vs.length - 1 - i], SqL.of (e _ _ h), List.getElem?_eq_getElem (by omega)⟩
  stop := fun H' e => by rw [List.length_reverse, ← dqa_len da]; exact Nat.le_refl _
  yld := fun i H' x H2 m hi ho e y => by
    obtain ⟨rfl, y2⟩ := y
    rw [List.length_reverse] at hi
    have hx := y2 vs (SqL.of (vw_sub _ _ (e _ _ h)))
    obtain ⟨d, hd, dx⟩ := dqa_get da hx
    rw [dqa_len da] at hd
    exact ⟨d, by rw [rev_at hi]; exact hd, .refl ho, dx.mv e⟩
theorem it_revT (h : SqT K Vb a vs) (da : DqAll K Vb vs xs) : ItR K Vb (ItvT K a vs.length) xs.reverse where
  go := fun i H' hi e => by
    have hl := dqa_len da
    rw [List.length_reverse] at hi
    refine ⟨by omega, vs, vs[vs.length - 1 - i], seqT_same e h, List.getElem?_eq_getElem (by omega)⟩
  stop := fun H' e => by rw [List.length_reverse, ← dqa_len da]; exact Nat.le_refl _
  yld := fun i H' x H2 m hi ho e y => by
    obtain ⟨rfl, y2⟩ := y
    rw [List.length_reverse] at hi
    have hx := y2 vs (seqT_same (e.trans vw_sub) h)
    obtain ⟨d, hd, dx⟩ := dqa_get da hx
    rw [dqa_len da] at hd
    exact ⟨d, by rw [rev_at hi]; exact hd, .refl ho, dx.mv e⟩
def sgsD (x : Str) : List PyData := x.cps.toList.map sgD
theorem it_str (x : Str) : ItR K Vb (Its x) (sgsD x) where
  go := fun i H' hi _ => by show i < x.cps.size; simpa [sgsD] using hi
  stop := fun H' _ => by simp [sgsD, Its]
  yld := fun i H' v H2 m hi ho e y => by
    obtain ⟨rfl, c, hc, rfl⟩ := y
    refine ⟨sgD c, ?_, .refl ho, .str _⟩
    unfold sgsD
    rw [List.getElem?_map, Array.getElem?_toList, hc]
    rfl
def rngD (lo : Int) (n : Nat) : List PyData := (List.range n).map fun (k : Nat) => PyData.int (lo + k)
theorem it_rng (lo : Int) (n : Nat) : ItR K Vb (Itr lo n) (rngD lo n) where
  go := fun i H' hi _ => by show i < n; simpa [rngD] using hi
  stop := fun H' _ => by simp [rngD, Itr]
  yld := fun i H' v H2 m hi ho e y => by
    obtain ⟨rfl, rfl⟩ := y
    refine ⟨.int (lo + i), ?_, .refl ho, .int _⟩
    have : i < n := by simpa [rngD] using hi
    simp [rngD, this]
/-- what zip, enumerate may walk -/
def srcD : D → Option (List PyData)
  | .py (.list a) => some a
  | .py (.tuple a) => some a
  | .py (.str x) => some (sgsD x)
  | _ => none
theorem src_of {v : V} {d : D} (r : RD K m H v d) (e : srcD d = some xs) : ∃ S vs, v = S.v ∧ (∀ H', Same (vw m H) H' → SK K H' vs S) ∧ DqAll K (vw m H) vs xs := by
  cases d with
  | py p =>
    cases p with
    | list a =>
      cases e
      obtain ⟨p1, vs, rfl, e1, a1⟩ := dq_lst r.dp
      exact ⟨.lst p1, vs, rfl, fun H' s => SqL.of (s _ _ e1), a1⟩
    | tuple a =>
      cases e
      obtain ⟨p1, vs, rfl, e1, a1⟩ := dq_tup r.dp
      exact ⟨.tup p1, vs, rfl, fun H' s => seqT_same s e1, a1⟩
    | str x =>
      cases e
      cases r.dp
      exact ⟨.str x, _, rfl, fun H' s => rfl, dqa_sgs _⟩
    | none => cases e
    | bool c => cases e
    | int c => cases e
    | dict c => cases e
  | no => cases e
  | rng n => cases e
  | rcd kvs => cases e
  | deck => cases e
  | ext R mono => cases e
  | own ds => cases e
def pairsD (xs ys : List PyData) : List PyData := List.zipWith (fun x y => PyData.tuple [x, y]) xs ys
theorem it_zip {S T : Src} {vs ws : List V} {ys : List PyData} (h1 : ∀ H', Same Vb H' → SK K H' vs S) (h2 : ∀ H', Same Vb H' → SK K H' ws T) (d1 : DqAll K Vb vs xs) (d2 : DqAll K Vb ws ys) : ItR K Vb (ItQ K S T vs ws) (pairsD xs ys) where
  go := fun i H' hi e => by
    unfold pairsD at hi
    rw [List.length_zipWith] at hi
    exact ⟨h1 H' e, h2 H' e, by rw [dqa_len d1]; omega, by rw [dqa_len d2]; omega⟩
  stop := fun H' e => by
    unfold pairsD
    rw [List.length_zipWith]
    exact ⟨h1 H' e, h2 H' e, by rw [dqa_len d1, dqa_len d2]; omega⟩
  yld := fun i H' v H2 m hi ho e y => by
    obtain ⟨p, x, y, rfl, hp, rfl, hx, hy⟩ := y
    obtain ⟨a, ha, da⟩ := dqa_get d1 hx
    obtain ⟨c, hc, dc⟩ := dqa_get d2 hy
    have g : Go m H' (upd H' p (.tup [x, y])) := .new ho hp
    refine ⟨.tuple [a, c], by unfold pairsD; rw [List.getElem?_zipWith, ha, hc], g, .tup (SqT.of (vw_new ho hp)) (.cons ((da.mv e).mv g.vw) (.cons ((dc.mv e).mv g.vw) .nil))⟩
def numD (xs : List PyData) : List PyData := xs.mapIdx fun i x => PyData.tuple [.int (i : Nat), x]
theorem it_num {S : Src} {vs : List V} (h1 : ∀ H', Same Vb H' → SK K H' vs S) (d1 : DqAll K Vb vs xs) : ItR K Vb (ItN K S vs) (numD xs) where
  go := fun i H' hi e => by
    unfold numD at hi
    rw [List.length_mapIdx] at hi
    exact ⟨h1 H' e, by rw [dqa_len d1]; exact hi⟩
  stop := fun H' e => by
    unfold numD
    rw [List.length_mapIdx]
    exact ⟨h1 H' e, by rw [dqa_len d1]; exact Nat.le_refl _⟩
  yld := fun i H' v H2 m hi ho e y => by
    obtain ⟨p, x, rfl, hp, rfl, hx⟩ := y
    obtain ⟨a, ha, da⟩ := dqa_get d1 hx
    have g : Go m H' (upd H' p (.tup [.int (i : Nat), x])) := .new ho hp
    refine ⟨.tuple [.int (i : Nat), a], by unfold numD; rw [List.getElem?_mapIdx, ha]; rfl, g, .tup (SqT.of (vw_new ho hp)) (.cons (.int _) (.cons ((da.mv e).mv g.vw) .nil))⟩
end
section
variable {X : Cx} {B : Hp} {m0 : Md} {b : Bs} {tg e e2 : Expr} {te ta : TE} {pe pa : PTE} {tA : TA} {pA : PTA} {p pos tpos : Pos}
def piL (pe : PTE) : PTL := fun env P => pe env fun d => ∃ a, d = .py (.list a) ∧ P a
def piT (pe : PTE) : PTL := fun env P => pe env fun d => ∃ a, d = .py (.tuple a) ∧ P a
def piS (pe : PTE) : PTL := fun env P => pe env fun d => ∃ a : Str, d = .py (.str a) ∧ P (sgsD a)
def piR1 (pa : PTA) : PTL := fun env P => pa env fun ds => ∃ n : Int, ds = [.py (.int n)] ∧ -1000000 ≤ n ∧ n ≤ 1000000 ∧ P (rngD 0 n.toNat)
def piR2 (pa : PTA) : PTL := fun env P => pa env fun ds => ∃ k n : Int, ds = [.py (.int k), .py (.int n)] ∧ (-1000000 ≤ k ∧ k ≤ 1000000 ∧ -1000000 ≤ n ∧ n ≤ 1000000) ∧ P (rngD k (n - k).toNat)
def piRV (pe : PTE) : PTL := fun env P => pe env fun d => ∃ n : Int, d = .rng n ∧ -1000000 ≤ n ∧ n ≤ 1000000 ∧ P (rngD 0 n.toNat)
def piZ (pa : PTA) : PTL := fun env P => pa env fun ds => ∃ d1 d2 xs ys, ds = [d1, d2] ∧ srcD d1 = some xs ∧ srcD d2 = some ys ∧ P (pairsD xs ys)
def piN (pa : PTA) : PTL := fun env P => pa env fun ds => ∃ d1 xs, ds = [d1] ∧ srcD d1 = some xs ∧ P (numD xs)
def piV (pe : PTE) : PTL := fun env P => pe env fun d => ∃ a, (d = .py (.list a) ∨ d = .py (.tuple a)) ∧ P a.reverse
theorem qi_list {K' : PySem.W.Frag} (h : QE X B m0 e te pe) (hK : X.K = K' := by rfl) : QI X B m0 tg e (iList K' te) (piL pe) := by
  subst hK
  exact ⟨pi_list h.p, fun W σ env H R P hR hp k => by
  refine h.s W σ env H _ _ hR hp fun v d H1 g1 r1 q1 => ?_
  obtain ⟨a, rfl, q⟩ := q1
  obtain ⟨p1, vs, rfl, e1, a1⟩ := dq_lst r1.dp
  exact ⟨p1, rfl, ⟨vs, SqL.of (vw_sub _ _ e1)⟩, k _ _ H1 g1 (it_lst e1 a1) q⟩⟩
theorem qi_tup {K' : PySem.W.Frag} (h : QE X B m0 e te pe) (hK : X.K = K' := by rfl) : QI X B m0 tg e (iTup K' te) (piT pe) := by
  subst hK
  exact ⟨pi_tup h.p, fun W σ env H R P hR hp k => by
  refine h.s W σ env H _ _ hR hp fun v d H1 g1 r1 q1 => ?_
  obtain ⟨a, rfl, q⟩ := q1
  obtain ⟨p1, vs, rfl, e1, a1⟩ := dq_tup r1.dp
  exact ⟨p1, rfl, ⟨vs, seqT_same vw_sub e1⟩, k _ _ H1 g1 (it_tup e1 a1) q⟩⟩
theorem qi_str (h : QE X B m0 e te pe) : QI X B m0 tg e (iStr te) (piS pe) := ⟨pi_str h.p, fun W σ env H R P hR hp k => by
  refine h.s W σ env H _ _ hR hp fun v d H1 g1 r1 q1 => ?_
  obtain ⟨a, rfl, q⟩ := q1
  cases r1.dp
  exact ⟨a, rfl, k _ _ H1 g1 (it_str a) q⟩⟩
theorem qi_range1 (hg : Gl X "range") (hm : X.mg "range" = none) (h : QA X B m0 [e] tA pA) (hs : starEach [e] X.env = [(false, eval e X.env)] := by rfl) : QI X B m0 tg (.Call (.Name "range" p) [e] [] pos) (iRng1 tA) (piR1 pA) := ⟨pi_range1 hg hm h.p hs, fun W σ env H R P hR hp k => by
  refine h.s W σ env H _ _ hR hp fun vs ds H1 g1 r1 q1 => ?_
  obtain ⟨n, rfl, n1, n2, q⟩ := q1
  obtain ⟨v, rfl, r⟩ := rds1 r1
  cases r.dp
  exact ⟨n, rfl, by omega, by omega, k _ _ H1 g1 (it_rng 0 _) q⟩⟩
theorem qi_range2 (hg : Gl X "range") (hm : X.mg "range" = none) (h : QA X B m0 [e, e2] tA pA) (hs : starEach [e, e2] X.env = [(false, eval e X.env), (false, eval e2 X.env)] := by rfl) (hs2 : starEach [e2] X.env = [(false, eval e2 X.env)] := by rfl) : QI X B m0 tg (.Call (.Name "range" p) [e, e2] [] pos) (iRng2 tA) (piR2 pA) := ⟨pi_range2 hg hm h.p hs hs2, fun W σ env H R P hR hp k => by
  refine h.s W σ env H _ _ hR hp fun vs ds H1 g1 r1 q1 => ?_
  obtain ⟨i, n, rfl, hn, q⟩ := q1
  obtain ⟨v, w, rfl, r, r2⟩ := rds2 r1
  cases r.dp
  cases r2.dp
  exact ⟨i, n, rfl, by omega, k _ _ H1 g1 (it_rng i _) q⟩⟩
theorem qi_rngV (h : QE X B m0 e te pe) : QI X B m0 tg e (iRngV te) (piRV pe) := ⟨pi_rngV h.p, fun W σ env H R P hR hp k => by
  refine h.s W σ env H _ _ hR hp fun v d H1 g1 r1 q1 => ?_
  obtain ⟨n, rfl, n1, n2, q⟩ := q1
  obtain ⟨a, rfl, ha⟩ := r1
  exact ⟨a, n, rfl, vw_sub _ _ ha, n1, n2, k _ _ H1 g1 (it_rng 0 _) q⟩⟩
theorem qi_zip {K' : PySem.W.Frag} {elts : List Expr} {kk : Nat} (hg : Gl X "zip") (hm : X.mg "zip" = none) (h : QA X B m0 [e, e2] tA pA) (hs : starEach [e, e2] X.env = (false, eval e X.env) :: starEach [e2] X.env := by rfl) (hpl : (backTo pos (starEach [e2] X.env)).any (·.1) = false := by rfl) (hK : X.K = K' := by rfl) :
    QI X B m0 (.Tuple elts kk tpos) (.Call (.Name "zip" p) [e, e2] [] pos) (iZipQ K' tA) (piZ pA) := by
  subst hK
  exact ⟨pi_zipQ hg hm h.p hs hpl, fun W σ env H R P hR hp k => by
  refine h.s W σ env H _ _ hR hp fun vs ds H1 g1 r1 q1 => ?_
  obtain ⟨d1, d2, xs, ys, rfl, e1, e2, q⟩ := q1
  obtain ⟨v, w, rfl, r, r2⟩ := rds2 r1
  obtain ⟨S, us, rfl, k1, a1⟩ := src_of r e1
  obtain ⟨T, ws, rfl, k2, a2⟩ := src_of r2 e2
  exact ⟨S, T, us, ws, rfl, k1 _ vw_sub, k2 _ vw_sub, k _ _ H1 g1 (it_zip k1 k2 a1 a2) q⟩⟩
theorem qi_enum {K' : PySem.W.Frag} {elts : List Expr} {kk : Nat} (hg : Gl X "enumerate") (hm : X.mg "enumerate" = none) (h : QA X B m0 [e] tA pA) (hs : starEach [e] X.env = [(false, eval e X.env)] := by rfl) (hK : X.K = K' := by rfl) :
    QI X B m0 (.Tuple elts kk tpos) (.Call (.Name "enumerate" p) [e] [] pos) (iNumQ K' tA) (piN pA) := by
  subst hK
  exact ⟨pi_enumQ hg hm h.p hs, fun W σ env H R P hR hp k => by
  refine h.s W σ env H _ _ hR hp fun vs ds H1 g1 r1 q1 => ?_
  obtain ⟨d1, xs, rfl, e1, q⟩ := q1
  obtain ⟨v, rfl, r⟩ := rds1 r1
  obtain ⟨S, us, rfl, k1, a1⟩ := src_of r e1
  exact ⟨S, us, rfl, k1 _ vw_sub, k _ _ H1 g1 (it_num k1 a1) q⟩⟩
theorem qi_rev {K' : PySem.W.Frag} (hg : Gl X "reversed") (hm : X.mg "reversed" = none) (h : QE X B m0 e te pe) (hs : starEach [e] X.env = (false, eval e X.env) :: starEach [] X.env := by rfl) (hK : X.K = K' := by rfl) : QI X B m0 tg (.Call (.Name "reversed" p) [e] [] pos) (iRevA K' te) (piV pe) := by
  subst hK
  exact ⟨pi_revA hg hm h.p hs, fun W σ env H R P hR hp k => by
  refine h.s W σ env H _ _ hR hp fun v d H1 g1 r1 q1 => ?_
  obtain ⟨a, rfl | rfl, q⟩ := q1
  · obtain ⟨p1, vs, rfl, e1, a1⟩ := dq_lst r1.dp
    exact ⟨p1, vs, rfl, .inl ⟨SqL.of (vw_sub _ _ e1), k _ _ H1 g1 (it_revL e1 a1) q⟩⟩
  · obtain ⟨p1, vs, rfl, e1, a1⟩ := dq_tup r1.dp
    exact ⟨p1, vs, rfl, .inr ⟨seqT_same vw_sub e1, k _ _ H1 g1 (it_revT e1 a1) q⟩⟩⟩
end
/-! ### targets -/
abbrev PTG := PyData → PEnv → (PEnv → Prop) → Prop
abbrev PTGs := List PyData → PEnv → (PEnv → Prop) → Prop
def SG (b : Bs) (js : List Nat) (g : TG) (pg : PTG) : Prop := ∀ W σ env H x d (S : L2.St → Hp → Prop) (P : PEnv → Prop), Rl b W σ env H → Dq b.K (vw W.m H) x d → pg d env P →
  (∀ σ' env', Rl b W σ' env' H → (∀ vs, (∀ j ∈ js, j ∈ vs) → wipe σ' vs = wipe σ vs) → P env' → S σ' H) → g x σ H S
def SGs (b : Bs) (js : List Nat) (g : TGs) (pg : PTGs) : Prop := ∀ W σ env H xs ds (S : L2.St → Hp → Prop) (P : PEnv → Prop), Rl b W σ env H → DqAll b.K (vw W.m H) xs ds → pg ds env P →
  (∀ σ' env', Rl b W σ' env' H → (∀ vs, (∀ j ∈ js, j ∈ vs) → wipe σ' vs = wipe σ vs) → P env' → S σ' H) → g xs σ H S
structure QG (X : Cx) (B : Hp) (m0 : Md) (tg : Expr) (g : TG) (js : List Nat) (pg : PTG) : Prop where
  p : PG X tg g
  s : SG (bs X B m0) js g pg
structure QGs (X : Cx) (B : Hp) (m0 : Md) (tg : List Expr) (g : TGs) (js : List Nat) (pg : PTGs) : Prop where
  p : PGs X tg g
  s : SGs (bs X B m0) js g pg
theorem wipe_setIn {σ : L2.St} {i : Nat} {v : Option V} : ∀ {vs : List Nat}, i ∈ vs → wipe (σ.set i v) vs = wipe σ vs
  | j :: vs, h => by
    show (wipe (σ.set i v) vs).set j none = (wipe σ vs).set j none
    by_cases c : i ∈ vs
    · rw [wipe_setIn c]
    · have e : i = j := (List.mem_cons.mp h).elim id fun z => absurd z c
      subst e
      have : wipe (σ.set i v) vs = (wipe σ vs).set i v := by
        clear h
        induction vs with
        | nil => rfl
        | cons k r ih =>
          have hk : i ≠ k := fun z => c (z ▸ List.mem_cons_self)
          have hr : i ∉ r := fun z => c (List.mem_cons_of_mem _ z)
          show (wipe (σ.set i v) r).set k none = ((wipe σ r).set k none).set i v
          rw [ih hr, List.set_comm _ _ hk]
      rw [this, List.set_set]
section
variable {X : Cx} {B : Hp} {m0 : Md} {b : Bs} {e : Expr} {es : List Expr} {pos : Pos} {g : TG} {gs : TGs} {js ks : List Nat} {pg : PTG} {pgs : PTGs}
def pgName (i : Nat) : PTG := fun d env P => P (env.set i (.py d))
theorem qg_name {i : Nat} {x : Str} (hN : X.N.Nodup) (hi : X.N[i]? = some x) (hx : Loc X.env.scope x) (hf : X.fn x = true ∨ X.env.scope.names.lookup x = some .local := by first | exact .inl rfl | exact .inr rfl | assumption) : QG X B m0 (.Name x pos) (gName i) [i] (pgName i) :=
  ⟨pg_name hN hi hx hf, fun W σ env H x d S P hR hd hp k => k _ _ (hR.set (rdp hd)) (fun vs h => wipe_setIn (h i List.mem_cons_self)) hp⟩
def pgNil : PTGs := fun ds env P => ds = [] ∧ P env
def pgCons (pg : PTG) (pgs : PTGs) : PTGs := fun ds env P => ∃ d r, ds = d :: r ∧ pg d env fun env1 => pgs r env1 P
def pgTup (n : Nat) (pgs : PTGs) : PTG := fun d env P => ∃ ds, d = .tuple ds ∧ ds.length = n ∧ pgs ds env P
theorem qgs_nil : QGs X B m0 [] gNil [] pgNil := ⟨pgs_nil, fun W σ env H xs ds S P hR hd hp k => by
  obtain ⟨rfl, q⟩ := hp
  cases hd
  exact ⟨rfl, k σ env hR (fun _ _ => rfl) q⟩⟩
theorem qgs_cons (h1 : QG X B m0 e g js pg) (h2 : QGs X B m0 es gs ks pgs) (hs : (assignEach (e :: es) X.env).map (·.2) = assign e X.env :: (assignEach es X.env).map (·.2) := by rfl) : QGs X B m0 (e :: es) (gCons g gs) (js ++ ks) (pgCons pg pgs) := ⟨pgs_cons h1.p h2.p hs, fun W σ env H xs ds S P hR hd hp k => by
  obtain ⟨d, r, rfl, q⟩ := hp
  cases hd with
  | cons d1 d2 =>
    refine ⟨_, _, rfl, h1.s W σ env H _ _ _ _ hR d1 q fun σ1 env1 r1 w1 q1 => ?_⟩
    refine h2.s W σ1 env1 H _ _ _ _ r1 d2 q1 fun σ2 env2 r2 w2 q2 => ?_
    exact k σ2 env2 r2 (fun vs h => (w2 vs fun j hj => h j (List.mem_append_right _ hj)).trans (w1 vs fun j hj => h j (List.mem_append_left _ hj))) q2⟩
theorem qg_tup {k n : Nat} (hc : X.calm = true) (h : QGs X B m0 es gs js pgs) (hn : (assignEach es X.env).length = n := by rfl) (hst : (assignEach es X.env).findIdx? (·.1) = none := by rfl) : QG X B m0 (.Tuple es k pos) (gTup X.K n gs) js (pgTup n pgs) := ⟨pg_tup hc h.p hn hst, fun W σ env H x d S P hR hd hp k => by
  obtain ⟨ds, rfl, hl, q⟩ := hp
  obtain ⟨p, xs, rfl, e1, a1⟩ := dq_tup hd
  exact ⟨p, xs, rfl, seqT_same vw_sub e1, by rw [dqa_len a1]; exact hl, h.s W σ env H _ _ _ _ hR a1 q k⟩⟩
end
/-! ### comprehensions -/
def pYes : PTT := fun env P => P true
theorem st_yes {b : Bs} : ST b tYes pYes := fun W σ env H Q P hR hp k => k _ H (.refl hR.ok) hp
def lcGo (vs : List Nat) (pg : PTG) (pt : PTT) (pe : PTE) (env : PEnv) : List PyData → (List PyData → Prop) → Prop
  | [], P => P []
  | x :: xs, P => pg x (wipeE env vs) fun env2 => pt env2 fun k => if k = true then pe env2 fun d => ∃ p, d = .py p ∧ lcGo vs pg pt pe env xs fun ds => P (p :: ds) else lcGo vs pg pt pe env xs P
def pLc (pi : PTL) (vs : List Nat) (pg : PTG) (pt : PTT) (pe : PTE) : PTL := fun env P => pi env fun xs => xs.length ≤ 1000 ∧ lcGo vs pg pt pe env xs P
theorem wipe_wipe : ∀ (vs' vs : List Nat) (σ : L2.St), (∀ j ∈ vs', j ∈ vs) → wipe (wipe σ vs') vs = wipe σ vs
  | [], _, _, _ => rfl
  | a :: r, vs, σ, hh => by
    show wipe ((wipe σ r).set a none) vs = wipe σ vs
    rw [wipe_setIn (hh a List.mem_cons_self)]
    exact wipe_wipe r vs σ fun j hj => hh j (List.mem_cons_of_mem _ hj)
theorem sf_lc {b : Bs} {wi : TI} {g : TG} {tt : TT} {te : TE} {vs js : List Nat} {pi : PTL} {pg : PTG} {pt : PTT} {pe : PTE} (hi : SI b wi pi) (hg : SG b js g pg) (ht : ST b tt pt) (he : SE b te pe) (hj : ∀ j ∈ js, j ∈ vs) : SF b (tLc wi g tt te vs) (pLc pi vs pg pt pe) := by
  intro W σ env H Q P hR hp k
  refine r_lc ?_
  refine hi W σ env H _ _ hR hp fun J xs H1 g1 hJ q1 => ?_
  obtain ⟨hlen, q1⟩ := q1
  have h1 := hR.go g1
  refine r_lcG (n := xs.length) (fun E i H' => Go W.m H1 H' ∧ ∃ acc ds, H' E = some (.lst acc) ∧ DqAll b.K (vw (W.m.add E) H') acc ds ∧ ds.length ≤ i ∧ lcGo vs pg pt pe env (xs.drop i) fun rs => P (ds ++ rs)) (fun E hE => ?_) (fun E i H' hE hi' p => ?_) (fun E H' hE p => ?_) (fun E i x H' H2 hE hi' p y => ?_) (fun E H' hE p => ?_)
  · exact ⟨.new h1.ok hE, [], [], upd_same, .nil, Nat.le_refl _, q1⟩
  · exact hJ.go i H' hi' (p.1.vw.trans vw_sub)
  · exact hJ.stop H' (p.1.vw.trans vw_sub)
  · obtain ⟨gg, acc, ds, eE, da, hl, q⟩ := p
    have r0 : Rl b ⟨W.m.add E, W.ow⟩ σ env H' := h1.hide gg hE (by rw [eE]; intro z; cases z)
    have kv : Same (vw W.m H1) (vw (W.m.add E) H') := gg.old hE
    obtain ⟨d, hd, g2, dx⟩ := hJ.yld i H' x H2 (W.m.add E) hi' r0.ok kv y
    have r2 := r0.go (W := ⟨W.m.add E, W.ow⟩) g2
    have offE : (W.m.add E).off E := h1.ok.off hE
    have eE2 : H2 E = some (.lst acc) := g2.at offE eE
    have ex : xs.drop i = d :: xs.drop (i + 1) := by
      rw [List.drop_eq_getElem_cons hi']
      rw [List.getElem?_eq_getElem hi'] at hd
      cases hd
      rfl
    rw [ex] at q
    refine hg ⟨W.m.add E, W.ow⟩ _ _ H2 x d _ _ (r2.wipe vs) dx q fun σ' env2 r3 w3 q3 => ?_
    refine ⟨(w3 vs hj).trans (wipe_wipe vs vs σ fun _ h => h), ?_⟩
    refine ht ⟨W.m.add E, W.ow⟩ σ' env2 H2 _ _ r3 q3 fun c H3 g3 q4 => ?_
    have eE3 : H3 E = some (.lst acc) := g3.at offE eE2
    have gg3 : Go W.m H1 H3 := (gg.trans g2.sub).trans g3.sub
    have da3 := (da.mv g2.vw).mv g3.vw
    cases c with
    | true =>
      rw [if_pos rfl] at q4
      refine r_ck1 ?_
      refine he ⟨W.m.add E, W.ow⟩ σ' env2 H3 _ _ (r3.go (W := ⟨W.m.add E, W.ow⟩) g3) q4 fun v d' H4 g4 r4 q5 => ?_
      obtain ⟨p, rfl, q5⟩ := q5
      have eE4 : H4 E = some (.lst acc) := g4.at offE eE3
      have da4 := da3.mv g4.vw
      refine r_ap eE4 (by rw [dqa_len da4]; omega) ⟨(gg3.trans g4.sub).mut h1.ok hE, acc ++ [v], ds ++ [p], upd_same, ?_, by simp; omega, ?_⟩
      · rw [vw_addupd]
        exact dqa_app da4 (.cons r4.dp .nil)
      · simpa using q5
    | false =>
      rw [if_neg Bool.false_ne_true] at q4
      refine r_ck0 ⟨gg3, acc, ds, eE3, da3, by omega, q4⟩
  · obtain ⟨gg, acc, ds, eE, da, hl, q⟩ := p
    rw [List.drop_length] at q
    have q' : P (ds ++ []) := q
    rw [List.append_nil] at q'
    exact k E acc ds H' (g1.trans gg) (g1.free hE) eE da q'
theorem qf_lc {X : Cx} {B : Hp} {m0 : Md} {elt tg iter : Expr} {ifs : List Expr} {scope : Scope} {own : List (Str × Nat)} {pos : Pos} {wi : TI} {g : TG} {tt : TT} {te : TE} {js : List Nat} {pi : PTL} {pg : PTG} {pt : PTT} {pe : PTE} (hc : X.calm = true) (hN : X.N.Nodup)
    (hi : QI X B m0 tg iter wi pi) (ok : BlkOk X.N X.env.scope scope own) (hg : ∀ (s : Shared) (H : Hp) (C : Addr) (cl : List (Str × Addr)) (fp : List Addr), QG (X.blk s H scope (compEnvC scope cl C X.env) fp) B m0 tg g js pg)
    (ht : ∀ (s : Shared) (H : Hp) (C : Addr) (cl : List (Str × Addr)) (fp : List Addr), PTs (X.blk s H scope (compEnvC scope cl C X.env) fp) ifs tt ∧ ST (bs X B m0) tt pt)
    (he : ∀ (s : Shared) (H : Hp) (C : Addr) (cl : List (Str × Addr)) (fp : List Addr), QE (X.blk s H scope (compEnvC scope cl C X.env) fp) B m0 elt te pe)
    (hj : js.all (fun j => (own.map (·.2)).contains j) = true := by decide) (hs : ∀ x, foldedSetIterable iter X.env x = pure x := by intro _; rfl) :
    QF X B m0 (.ListComp elt [⟨tg, iter, ifs, 0⟩] scope pos) (tLc wi g tt te (own.map (·.2))) (pLc pi (own.map (·.2)) pg pt pe) := by
  let s0 : Shared := X.s_0
  exact ⟨pe_lc hc hN hi.p ok (fun s H C cl fp => (hg s H C cl fp).p) (fun s H C cl fp => (ht s H C cl fp).1) (fun s H C cl fp => (he s H C cl fp).p) hs,
    sf_lc (b := bs X B m0) hi.s (hg s0 (fun _ => none) 0 [] []).s (ht s0 (fun _ => none) 0 [] []).2 (he s0 (fun _ => none) 0 [] []).s fun j h => by
      have := List.all_eq_true.mp hj j h
      simpa using this⟩
theorem qts_nil {X : Cx} {b : Bs} : PTs X [] tYes ∧ ST b tYes pYes := ⟨pts_nil, st_yes⟩
theorem qts_one {X : Cx} {B : Hp} {m0 : Md} {c : Expr} {tt : TT} {pt : PTT} (h : QT X B m0 c tt pt) : PTs X [c] tt ∧ ST (bs X B m0) tt pt := ⟨pts_one h.p, h.s⟩
end VP

/-! VP5: statements, calls of defs, defs -/
namespace VP
open PySem PySem.Spec PyProof.Rows L2 VB VZ VC RT
structure EnR (b : Bs) (V : Hp) (Pn : PEn) (Dn : Ends) : Prop where
  nx : ∀ W σ env H, Rl b W σ env H → Same V (vw W.m H) → Pn.nx env → Dn.nx σ H
  bk : ∀ W σ env H, Rl b W σ env H → Same V (vw W.m H) → Pn.bk env → Dn.bk σ H
  ct : ∀ W σ env H, Rl b W σ env H → Same V (vw W.m H) → Pn.ct env → Dn.ct σ H
  rt : ∀ W σ env H v d, Rl b W σ env H → RD b.K W.m H v d → Pn.rt d → Dn.rt v H
def SS (b : Bs) (ts : TS) (ps : PTS) : Prop := ∀ V W σ env H Dn Pn, Rl b W σ env H → Same V (vw W.m H) → EnR b V Pn Dn → ps Pn env → ts Dn σ H
structure QS (X : Cx) (B : Hp) (m0 : Md) (st : Stmt) (ts : TS) (ps : PTS) : Prop where
  p : PS X st ts
  s : SS (bs X B m0) ts ps
structure QSs (X : Cx) (B : Hp) (m0 : Md) (st : List Stmt) (ts : TS) (ps : PTS) : Prop where
  p : PSs X st ts
  s : SS (bs X B m0) ts ps
def pSeq (p q : PTS) : PTS := fun Pn env => p { Pn with nx := q Pn } env
def pNext : PTS := fun Pn env => Pn.nx env
def pBreak : PTS := fun Pn env => Pn.bk env
def pCont : PTS := fun Pn env => Pn.ct env
def pSet (i : Nat) (pe : PTE) : PTS := fun Pn env => pe env fun d => Pn.nx (env.set i d)
def pSetO (i : Nat) (pf : PTL) : PTS := fun Pn env => pf env fun ds => Pn.nx (env.set i (.own ds))
def pAsg (pe : PTE) (pg : PTG) : PTS := fun Pn env => pe env fun d => ∃ p, d = .py p ∧ pg p env Pn.nx
def pPar (i j : Nat) (pa : PTA) : PTS := fun Pn env => pa env fun ds => ∃ d e, ds = [d, e] ∧ Pn.nx ((env.set i d).set j e)
def pPar3 (i j l : Nat) (pa : PTA) : PTS := fun Pn env => pa env fun ds => ∃ d e f, ds = [d, e, f] ∧ Pn.nx (((env.set i d).set j e).set l f)
def pIf (pt : PTT) (p q : PTS) : PTS := fun Pn env => pt env fun k => if k = true then p Pn env else q Pn env
def pRet (pe : PTE) : PTS := fun Pn env => pe env Pn.rt
def pRetN : PTS := fun Pn _ => Pn.rt (.py .none)
def pDrop (pe : PTE) : PTS := fun Pn env => pe env fun _ => Pn.nx env
def forGo (pg : PTG) (pb : PTS) (Pn : PEn) : List PyData → PEnv → Prop
  | [], env => Pn.nx env
  | x :: xs, env => pg x env fun env2 => pb { Pn with nx := forGo pg pb Pn xs, ct := forGo pg pb Pn xs, bk := Pn.nx } env2
def pFor (pi : PTL) (pg : PTG) (pb : PTS) : PTS := fun Pn env => pi env fun xs => forGo pg pb Pn xs env
def pWhile (pt : PTT) (pb : PTS) : PTS := fun Pn env => ∃ I : Nat → PEnv → Prop, (∃ n, I n env) ∧ ∀ n env, I n env → pt env fun k => if k = true then pb { Pn with nx := fun e => ∃ n', n' < n ∧ I n' e, ct := fun e => ∃ n', n' < n ∧ I n' e, bk := Pn.nx } env else Pn.nx env
section
variable {b : Bs} {te : TE} {pe : PTE} {pf : PTL} {tt : TT} {pt : PTT} {tA : TA} {pA : PTA} {t u : TS} {p q : PTS} {g : TG} {pg : PTG} {js : List Nat} {wi : TI} {pi : PTL} {i j l : Nat}
theorem ss_seq (h1 : SS b t p) (h2 : SS b u q) : SS b (tSeq t u) (pSeq p q) := fun V W σ env H Dn Pn hR hV hE hp =>
  h1 V W σ env H _ { Pn with nx := q Pn } hR hV ⟨fun W' σ' env' H' r v h => h2 V W' σ' env' H' Dn Pn r v hE h, hE.bk, hE.ct, hE.rt⟩ hp
theorem ss_next : SS b tNext pNext := fun V W σ env H Dn Pn hR hV hE hp => hE.nx W σ env H hR hV hp
theorem ss_break : SS b tBreak pBreak := fun V W σ env H Dn Pn hR hV hE hp => hE.bk W σ env H hR hV hp
theorem ss_cont : SS b tCont pCont := fun V W σ env H Dn Pn hR hV hE hp => hE.ct W σ env H hR hV hp
theorem ss_set (h : SE b te pe) : SS b (tAsg te (gName i)) (pSet i pe) := fun V W σ env H Dn Pn hR hV hE hp =>
  h W σ env H _ _ hR hp fun v d H1 g1 r1 q1 => hE.nx W _ _ H1 ((hR.go g1).set r1) (hV.trans g1.vw) q1
theorem ss_setO (h : SF b te pf) : SS b (tAsg te (gName i)) (pSetO i pf) := fun V W σ env H Dn Pn hR hV hE hp =>
  h W σ env H _ _ hR hp fun a vs ds H1 g1 hn hv da q1 => by
    obtain ⟨r, st⟩ := hR.setOwn (i := i) g1 hn hv da
    exact hE.nx _ _ _ H1 r (hV.trans st) q1
theorem ss_asg (h : SE b te pe) (hg : SG b js g pg) : SS b (tAsg te g) (pAsg pe pg) := fun V W σ env H Dn Pn hR hV hE hp =>
  h W σ env H _ _ hR hp fun v d H1 g1 r1 q1 => by
    obtain ⟨d', rfl, q1⟩ := q1
    exact hg W σ env H1 v d' _ _ (hR.go g1) r1.dp q1 fun σ' env' r2 _ q2 => hE.nx W _ _ H1 r2 (hV.trans g1.vw) q2
theorem ss_par (h : SA b tA pA) : SS b (tPar i j tA) (pPar i j pA) := fun V W σ env H Dn Pn hR hV hE hp =>
  h W σ env H _ _ hR hp fun vs ds H1 g1 r1 q1 => by
    obtain ⟨d, e, rfl, q1⟩ := q1
    obtain ⟨v, w, rfl, rv, rw⟩ := rds2 r1
    exact ⟨v, w, rfl, hE.nx W _ _ H1 (((hR.go g1).set rv).set rw) (hV.trans g1.vw) q1⟩
theorem rds3 {K : PySem.W.Frag} {m : Md} {H : Hp} {xs : List V} {d e f : D} (h : RDs K m H xs [d, e, f]) : ∃ v w x, xs = [v, w, x] ∧ RD K m H v d ∧ RD K m H w e ∧ RD K m H x f := by
  cases h with
  | cons h1 h2 =>
    obtain ⟨v, w, rfl, h3, h4⟩ := rds2 h2
    exact ⟨_, v, w, rfl, h1, h3, h4⟩
theorem ss_par3 (h : SA b tA pA) : SS b (tPar3 i j l tA) (pPar3 i j l pA) := fun V W σ env H Dn Pn hR hV hE hp =>
  h W σ env H _ _ hR hp fun vs ds H1 g1 r1 q1 => by
    obtain ⟨d, e, f, rfl, q1⟩ := q1
    obtain ⟨v, w, x, rfl, rv, rw, rx⟩ := rds3 r1
    exact ⟨v, w, x, rfl, hE.nx W _ _ H1 ((((hR.go g1).set rv).set rw).set rx) (hV.trans g1.vw) q1⟩
theorem ss_if (h : ST b tt pt) (h1 : SS b t p) (h2 : SS b u q) : SS b (tIfS tt t u) (pIf pt p q) := fun V W σ env H Dn Pn hR hV hE hp =>
  h W σ env H _ _ hR hp fun k H1 g1 q1 => by
    cases k with
    | true =>
      rw [if_pos rfl] at q1 ⊢
      exact h1 V W σ env H1 Dn Pn (hR.go g1) (hV.trans g1.vw) hE q1
    | false =>
      rw [if_neg Bool.false_ne_true] at q1 ⊢
      exact h2 V W σ env H1 Dn Pn (hR.go g1) (hV.trans g1.vw) hE q1
theorem ss_ret (h : SE b te pe) : SS b (tRet te) (pRet pe) := fun V W σ env H Dn Pn hR hV hE hp =>
  h W σ env H _ _ hR hp fun v d H1 g1 r1 q1 => hE.rt W _ _ H1 v d (hR.go g1) r1 q1
theorem ss_retN : SS b tRetN pRetN := fun V W σ env H Dn Pn hR hV hE hp => hE.rt W σ env H .non _ hR (rdp .non) hp
theorem ss_drop (h : SE b te pe) : SS b (tDrop te) (pDrop pe) := fun V W σ env H Dn Pn hR hV hE hp =>
  h W σ env H _ _ hR hp fun v d H1 g1 r1 q1 => hE.nx W _ _ H1 (hR.go g1) (hV.trans g1.vw) q1
theorem ss_for (hi : SI b wi pi) (hg : SG b js g pg) (hb : SS b t p) : SS b (tFor wi g t) (pFor pi pg p) := fun V W σ env H Dn Pn hR hV hE hp => by
  refine r_for ?_
  refine hi W σ env H _ _ hR hp fun J xs H1 g1 hJ q1 => ?_
  have h1 := hR.go g1
  have hV1 := hV.trans g1.vw
  refine r_forG (n := xs.length) (fun i σ' H' => ∃ W' env', Rl b W' σ' env' H' ∧ Same (vw W.m H1) (vw W'.m H') ∧ forGo pg p Pn (xs.drop i) env') ⟨W, env, h1, Same.refl _, q1⟩ (fun i σ' H' hi' pv => ?_) (fun σ' H' pv => ?_) (fun i x σ' H' H2 hi' pv y => ?_) (fun σ' H' pv => ?_)
  · obtain ⟨W', env', r, v, _⟩ := pv
    exact hJ.go i H' hi' (v.trans vw_sub)
  · obtain ⟨W', env', r, v, _⟩ := pv
    exact hJ.stop H' (v.trans vw_sub)
  · obtain ⟨W', env', r, v, q⟩ := pv
    obtain ⟨d, hd, g2, dx⟩ := hJ.yld i H' x H2 W'.m hi' r.ok v y
    have ex : xs.drop i = d :: xs.drop (i + 1) := by
      rw [List.drop_eq_getElem_cons hi']
      rw [List.getElem?_eq_getElem hi'] at hd
      cases hd
      rfl
    rw [ex] at q
    have r2 := r.go g2
    have v2 := v.trans g2.vw
    refine hg W' σ' env' H2 x d _ _ r2 dx q fun σ2 env2 r3 _ q3 => ?_
    exact hb (vw W.m H1) W' σ2 env2 H2 _ { Pn with nx := forGo pg p Pn (xs.drop (i + 1)), ct := forGo pg p Pn (xs.drop (i + 1)), bk := Pn.nx } r3 v2 ⟨fun W4 σ4 env4 H4 r4 v4 q4 => ⟨W4, env4, r4, v4, q4⟩, fun W4 σ4 env4 H4 r4 v4 q4 => hE.nx W4 σ4 env4 H4 r4 (hV1.trans v4) q4, fun W4 σ4 env4 H4 r4 v4 q4 => ⟨W4, env4, r4, v4, q4⟩, hE.rt⟩ q3
  · obtain ⟨W', env', r, v, q⟩ := pv
    rw [List.drop_length] at q
    exact hE.nx W' σ' env' H' r (hV1.trans v) q
theorem ss_while (ht : ST b tt pt) (hb : SS b t p) : SS b (tWhile tt t) (pWhile pt p) := fun V W σ env H Dn Pn hR hV hE hp => by
  obtain ⟨I, ⟨n, hn⟩, hI⟩ := hp
  refine ⟨fun n' σ' H' => ∃ W' env', Rl b W' σ' env' H' ∧ Same V (vw W'.m H') ∧ I n' env', ⟨n, W, env, hR, hV, hn⟩, fun n' σ' H' hw => ?_⟩
  obtain ⟨W', env', r, v, hi⟩ := hw
  refine ht W' σ' env' H' _ _ r (hI n' env' hi) fun k H1 g1 q1 => ?_
  cases k with
  | true =>
    rw [if_pos rfl] at q1 ⊢
    refine ⟨fun σ2 H2 => ∃ m, m < n' ∧ ∃ W' env', Rl b W' σ2 env' H2 ∧ Same V (vw W'.m H2) ∧ I m env', fun σ2 H2 h => h, ?_⟩
    exact hb V W' σ' env' H1 _ { Pn with nx := fun e => ∃ m, m < n' ∧ I m e, ct := fun e => ∃ m, m < n' ∧ I m e, bk := Pn.nx } (r.go g1) (v.trans g1.vw) ⟨fun W4 σ4 env4 H4 r4 v4 q4 => by obtain ⟨m, hm, hi⟩ := q4; exact ⟨m, hm, W4, env4, r4, v4, hi⟩, fun W4 σ4 env4 H4 r4 v4 q4 => hE.nx W4 σ4 env4 H4 r4 v4 q4, fun W4 σ4 env4 H4 r4 v4 q4 => by obtain ⟨m, hm, hi⟩ := q4; exact ⟨m, hm, W4, env4, r4, v4, hi⟩, hE.rt⟩ q1
  | false =>
    rw [if_neg Bool.false_ne_true] at q1 ⊢
    exact hE.nx W' σ' env' H1 (r.go g1) (v.trans g1.vw) q1
end
section
variable {X : Cx} {B : Hp} {m0 : Md} {st : Stmt} {rest body bodyB : List Stmt} {e tg iter c : Expr} {te : TE} {pe : PTE} {pf : PTL} {tt : TT} {pt : PTT} {tA : TA} {pA : PTA} {t u : TS} {p q : PTS} {g : TG} {pg : PTG} {js : List Nat} {wi : TI} {pi : PTL} {i j l : Nat} {pos pos' : Pos} {x : Str}
theorem qss_nil : QSs X B m0 [] tNext pNext := ⟨pss_nil, ss_next⟩
theorem qss_one (h : QS X B m0 st t p) : QSs X B m0 [st] t p := ⟨pss_one h.p, h.s⟩
theorem qss_cons (h : QS X B m0 st t p) (h2 : QSs X B m0 rest u q) : QSs X B m0 (st :: rest) (tSeq t u) (pSeq p q) := ⟨pss_cons h.p h2.p, ss_seq h.s h2.s⟩
theorem qs_set (i : Nat) {x : Str} (hN : X.N.Nodup) (hi : X.N[i]? = some x) (hx : Loc X.env.scope x) (he : QE X B m0 e te pe) (hs : swapsWith e (some (.Name x pos')) pos.line X.env = pure false := by rfl) (hf : X.fn x = true ∨ X.env.scope.names.lookup x = some .local := by first | exact .inl rfl | exact .inr rfl | assumption) :
    QS X B m0 (.Assign [.Name x pos'] e pos) (tAsg te (gName i)) (pSet i pe) := ⟨ps_set hN hi hx he.p hs hf, ss_set he.s⟩
theorem qs_setO (i : Nat) {x : Str} (hN : X.N.Nodup) (hi : X.N[i]? = some x) (hx : Loc X.env.scope x) (he : QF X B m0 e te pf) (hs : swapsWith e (some (.Name x pos')) pos.line X.env = pure false := by rfl) (hf : X.fn x = true ∨ X.env.scope.names.lookup x = some .local := by first | exact .inl rfl | exact .inr rfl | assumption) :
    QS X B m0 (.Assign [.Name x pos'] e pos) (tAsg te (gName i)) (pSetO i pf) := ⟨ps_set hN hi hx he.p hs hf, ss_setO he.s⟩
theorem qs_asg (he : QE X B m0 e te pe) (hg : QG X B m0 tg g js pg) (hs : swapsWithSole [tg] e pos.line X.env = pure false := by rfl) (hw : swappedStores [tg] e X.env = pure none := by rfl) (h1 : (assignEach [tg] X.env).map (·.2) = [assign tg X.env] := by rfl) : QS X B m0 (.Assign [tg] e pos) (tAsg te g) (pAsg pe pg) := ⟨ps_asg he.p hg.p hs hw h1, ss_asg he.s hg.s⟩
theorem qs_par {i j : Nat} {x y : Str} {a b : Expr} {px py pt : Pos} {kt k2 pt2} (hc : X.calm = true) (hN : X.N.Nodup) (hi : X.N[i]? = some x) (hj : X.N[j]? = some y) (hij : i ≠ j)
    (hx : X.env.scope.names.lookup x = some .local) (hy : X.env.scope.names.lookup y = some .local) (ha : QA X B m0 [a, b] tA pA)
    (hw : swappedStores [.Tuple [.Name x px, .Name y py] kt pt] (.Tuple [a, b] k2 pt2) X.env = pure (some [x, y]))
    (hs : swapsWithSole [.Tuple [.Name x px, .Name y py] kt pt] (.Tuple [a, b] k2 pt2) pos.line X.env = pure false := by rfl) :
    QS X B m0 (.Assign [.Tuple [.Name x px, .Name y py] kt pt] (.Tuple [a, b] k2 pt2) pos) (tPar i j tA) (pPar i j pA) := ⟨ps_par hc hN hi hj hij hx hy ha.p hw hs, ss_par ha.s⟩
theorem qs_par3 {i j l : Nat} {x y z : Str} {a b c : Expr} {px py pz pt pos : Pos} {kt k2 pt2} (hc : X.calm = true) (hN : X.N.Nodup) (hi : X.N[i]? = some x) (hj : X.N[j]? = some y) (hl : X.N[l]? = some z) (hij : i ≠ j) (hil : i ≠ l) (hjl : j ≠ l)
    (hx : X.env.scope.names.lookup x = some .local) (hy : X.env.scope.names.lookup y = some .local) (hz : X.env.scope.names.lookup z = some .local) (ha : QA X B m0 [a, b, c] tA pA)
    (hw : swappedStores [.Tuple [.Name x px, .Name y py, .Name z pz] kt pt] (.Tuple [a, b, c] k2 pt2) X.env = pure (some [x, y, z]))
    (hs : swapsWithSole [.Tuple [.Name x px, .Name y py, .Name z pz] kt pt] (.Tuple [a, b, c] k2 pt2) pos.line X.env = pure false := by rfl) :
    QS X B m0 (.Assign [.Tuple [.Name x px, .Name y py, .Name z pz] kt pt] (.Tuple [a, b, c] k2 pt2) pos) (tPar3 i j l tA) (pPar3 i j l pA) := ⟨ps_par3 hc hN hi hj hl hij hil hjl hx hy hz ha.p hw hs, ss_par3 ha.s⟩
theorem qs_if (hc : QT X B m0 c tt pt) (ha : QSs X B m0 body t p) (hb : QSs X B m0 bodyB u q) : QS X B m0 (.If c body bodyB pos) (tIfS tt t u) (pIf pt p q) := ⟨ps_if hc.p ha.p hb.p, ss_if hc.s ha.s hb.s⟩
theorem qs_ret (he : QE X B m0 e te pe) : QS X B m0 (.Return (some e) pos) (tRet te) (pRet pe) := ⟨ps_ret he.p, ss_ret he.s⟩
theorem qs_retN : QS X B m0 (.Return none pos) tRetN pRetN := ⟨ps_retN, ss_retN⟩
theorem qs_expr (he : QE X B m0 e te pe) (hs : swapsWith e none pos.line X.env = pure false := by rfl) : QS X B m0 (.Expr e pos) (tDrop te) (pDrop pe) := ⟨ps_expr he.p hs, ss_drop he.s⟩
theorem qs_pass : QS X B m0 (.Pass pos) tNext pNext := ⟨ps_pass, ss_next⟩
theorem qs_break : QS X B m0 (.Break pos) tBreak pBreak := ⟨ps_break, ss_break⟩
theorem qs_continue : QS X B m0 (.Continue pos) tCont pCont := ⟨ps_continue, ss_cont⟩
theorem qs_for (hp : PassesOwn (model X.prog X.w) X.A X.env X.xe) (hc : X.calm = true) (hi : QI X B m0 tg iter wi pi) (hg : QG X B m0 tg g js pg) (hb : QSs X B m0 body t p)
    (hs : ∀ x, foldedSetIterable iter X.env x = pure x := by intro _; rfl) : QS X B m0 (.For tg iter body [] pos) (tFor wi g t) (pFor pi pg p) := ⟨ps_for hp hc hi.p hg.p hb.p hs, ss_for hi.s hg.s hb.s⟩
theorem qs_while (hp : PassesOwn (model X.prog X.w) X.A X.env X.xe) (hc : QT X B m0 c tt pt) (hb : QSs X B m0 body t p) : QS X B m0 (.While c body [] pos) (tWhile tt t) (pWhile pt p) := ⟨ps_while hp hc.p hb.p, ss_while hc.s hb.s⟩
/-- y = [.. for ..] -/
theorem ps_lcSet {i : Nat} {y : Str} {py : Pos} {elt tg iter : Expr} {ifs : List Expr} {scope : Scope} {own : List (Str × Nat)} {pos spos : Pos} {g : TG} {tt : TT} {te : TE} {js : List Nat} {pg : PTG} {pt : PTT} {pe : PTE} (hc : X.calm = true) (hN : X.N.Nodup) (hy : X.N[i]? = some y) (hyl : X.env.scope.names.lookup y = some .local)
    (hsw : swapsWith (.ListComp elt [⟨tg, iter, ifs, 0⟩] scope pos) (some (.Name y py)) spos.line X.env = pure true)
    (hi : QI X B m0 tg iter wi pi) (ok : BlkOk X.N X.env.scope scope own) (hg : ∀ (s : Shared) (H : Hp) (C : Addr) (cl : List (Str × Addr)) (fp : List Addr), QG (X.blk s H scope (compEnvC scope cl C X.env) fp) B m0 tg g js pg)
    (ht : ∀ (s : Shared) (H : Hp) (C : Addr) (cl : List (Str × Addr)) (fp : List Addr), PTs (X.blk s H scope (compEnvC scope cl C X.env) fp) ifs tt ∧ ST (bs X B m0) tt pt)
    (he : ∀ (s : Shared) (H : Hp) (C : Addr) (cl : List (Str × Addr)) (fp : List Addr), QE (X.blk s H scope (compEnvC scope cl C X.env) fp) B m0 elt te pe)
    (hj : js.all (fun j => (own.map (·.2)).contains j) = true := by decide) (hs : ∀ x, foldedSetIterable iter X.env x = pure x := by intro _; rfl) :
    PS X (.Assign [.Name y py] (.ListComp elt [⟨tg, iter, ifs, 0⟩] scope pos) spos) (tAsg (tLc wi g tt te (own.map (·.2))) (gName i)) ∧ SF (bs X B m0) (tLc wi g tt te (own.map (·.2))) (pLc pi (own.map (·.2)) pg pt pe) :=
  ⟨ps_setLc hc hN hy hyl hsw hi.p ok (fun s H C cl fp => (hg s H C cl fp).p) (fun s H C cl fp => (ht s H C cl fp).1) (fun s H C cl fp => (he s H C cl fp).p) hs, (qf_lc (pos := pos) hc hN hi ok hg ht he hj hs).s⟩
theorem qs_lc {tf : TE} (i : Nat) (h : PS X st (tAsg tf (gName i)) ∧ SF (bs X B m0) tf pf) : QS X B m0 st (tAsg tf (gName i)) (pSet i (pF pf)) := ⟨h.1, ss_set (.ofF h.2)⟩
theorem qs_lcO {tf : TE} (i : Nat) (h : PS X st (tAsg tf (gName i)) ∧ SF (bs X B m0) tf pf) : QS X B m0 st (tAsg tf (gName i)) (pSetO i pf) := ⟨h.1, ss_setO h.2⟩
end
/-! ### lists of one's own -/
/-- it is written no more: data from here on -/
def pFz (i : Nat) (p : PTS) : PTS := fun Pn env => ∃ ds, env[i]? = some (.own ds) ∧ p Pn (env.set i (.py (.list ds)))
theorem ss_fz {b : Bs} {i : Nat} {t : TS} {p : PTS} (h : SS b t p) : SS b t (pFz i p) := fun V W σ env H Dn Pn hR hV hE hp => by
  obtain ⟨ds, e, q⟩ := hp
  obtain ⟨a, vs, _, _, r, _⟩ := hR.freeze e
  exact h V _ σ _ H Dn Pn r (hV.trans vw_del) hE q
theorem qs_fz {X : Cx} {B : Hp} {m0 : Md} {st : Stmt} {t : TS} {p : PTS} (i : Nat) (h : QS X B m0 st t p) : QS X B m0 st t (pFz i p) := ⟨h.p, ss_fz h.s⟩
/-- lent for one reading -/
def flatD : D → Bool
  | .py .none => true
  | .py (.bool _) => true
  | .py (.int _) => true
  | .py (.str _) => true
  | _ => false
theorem flat_rd {K : PySem.W.Frag} {m m' : Md} {H H' : Hp} {v : V} {d : D} (h : flatD d = true) (r : RD K m H v d) : RD K m' H' v d := by
  cases d with
  | py p =>
    cases p with
    | none => cases r.dp; exact rdp .non
    | bool c => cases r.dp; exact rdp (.bl _)
    | int c => cases r.dp; exact rdp (.int _)
    | str c => cases r.dp; exact rdp (.str _)
    | list c => cases h
    | tuple c => cases h
    | dict c => cases h
  | no => cases h
  | rng n => cases h
  | rcd kvs => cases h
  | deck => cases h
  | ext R mono => cases h
  | own ds => cases h
def pLend (i : Nat) (pe : PTE) : PTE := fun env P => ∃ ds, env[i]? = some (.own ds) ∧ pe (env.set i (.py (.list ds))) fun d => flatD d = true ∧ P d
def pLendT (i : Nat) (pt : PTT) : PTT := fun env P => ∃ ds, env[i]? = some (.own ds) ∧ pt (env.set i (.py (.list ds))) P
theorem go_del {m : Md} {a : Addr} {H H' : Hp} (h : Ok m H) (g : Go (Md.del m a) H H') : Go m H H' := by
  refine ⟨⟨g.ok.dk, fun c hc => ?_⟩, g.st⟩
  have := h.ex c hc
  exact Go.ne (m := Md.del m a) g this
theorem se_lend {b : Bs} {i : Nat} {te : TE} {pe : PTE} (h : SE b te pe) : SE b te (pLend i pe) := fun W σ env H Q P hR hp k => by
  obtain ⟨ds, e, q⟩ := hp
  obtain ⟨a, vs, _, _, r, _⟩ := hR.freeze e
  exact h _ σ _ H _ _ r q fun v d H1 g1 r1 q1 => k v d H1 (go_del hR.ok g1) (flat_rd q1.1 r1) q1.2
theorem st_lend {b : Bs} {i : Nat} {tt : TT} {pt : PTT} (h : ST b tt pt) : ST b tt (pLendT i pt) := fun W σ env H Q P hR hp k => by
  obtain ⟨ds, e, q⟩ := hp
  obtain ⟨a, vs, _, _, r, _⟩ := hR.freeze e
  exact h _ σ _ H _ _ r q fun c H1 g1 q1 => k c H1 (go_del hR.ok g1) q1
/-- a new list made of a lent one: its items stand -/
theorem dqa_undel {K : PySem.W.Frag} {m : Md} {H : Hp} : True := trivial
section
variable {X : Cx} {B : Hp} {m0 : Md} {e c o : Expr} {es : List Expr} {te ti : TE} {pe pj : PTE} {tt : TT} {pt : PTT} {i : Nat} {pos pos' apos cpos : Pos} {x : Str}
theorem qe_lend (i : Nat) (h : QE X B m0 e te pe) : QE X B m0 e te (pLend i pe) := ⟨h.p, se_lend h.s⟩
theorem qt_lend (i : Nat) (h : QT X B m0 e tt pt) : QT X B m0 e tt (pLendT i pt) := ⟨h.p, st_lend h.s⟩
/-- xs[e] of one's own -/
def pOwnIx (i : Nat) (pj : PTE) : PTE := fun env P => ∃ ds, env[i]? = some (.own ds) ∧ pj env fun d => ∃ n z, d = .py (.int n) ∧ atI ds n = some z ∧ P (.py z)
theorem qe_ownIx {K' : PySem.W.Frag} (i : Nat) (hN : X.N[i]? = some x := by rfl) (hv : Vis X.env.scope x := by first | exact .inl rfl | exact .inr (.inl rfl) | exact .inr (.inr rfl) | assumption) (hj : QE X B m0 c ti pj) (hp : PlainIx c) (hd : (x == ("__debug__" : Str)) = false := by decide) (hcd : (x == ("__classdict__" : Str)) = false := by decide) (hK : X.K = K' := by rfl) :
    QE X B m0 (.Subscript (.Name x pos') c pos) (tOp (rIxL K') (tVar i) ti) (pOwnIx i pj) := by
  subst hK
  exact ⟨pe_ix ix_list (pe_var hN hv hd hcd) hj.p hp, fun W σ env H Q P hR hp k => by
  obtain ⟨ds, e, q⟩ := hp
  obtain ⟨a, vs, _, hs, _, hv, da⟩ := hR.ownAt e
  have oa := (hR.own i a (by assumption)).2.1
  refine ⟨.ref a, hs, ?_⟩
  refine hj.s W σ env H _ _ hR q fun v d H1 g1 r1 q1 => ?_
  obtain ⟨n, z, rfl, hz, q1⟩ := q1
  cases r1.dp
  obtain ⟨w, hw, dw⟩ := dqa_at da hz
  exact ⟨a, vs, n, w, rfl, rfl, SqL.of (g1.at oa hv), hw, k w _ H1 g1 (rdp (dw.mv g1.vw)) q1⟩⟩
/-- xs.append(e) -/
def pApp (i : Nat) (pe : PTE) : PTS := fun Pn env => ∃ ds, env[i]? = some (.own ds) ∧ ds.length ≤ 1000 ∧ pe env fun d => ∃ p, d = .py p ∧ Pn.nx (env.set i (.own (ds ++ [p])))
theorem ss_app {b : Bs} (h : SE b te pe) : SS b (tDrop (tBM b.K "list" rAppend (tVar i) (tCons te tNil))) (pApp i pe) := fun V W σ env H Dn Pn hR hV hE hp => by
  obtain ⟨ds, e, hl, q⟩ := hp
  obtain ⟨a, vs, ha, hs, hx, hv, da⟩ := hR.ownAt e
  have oa := (hR.own i a ha).2.1
  refine ⟨.ref a, hs, .inl ⟨rfl, _, SqL.of hv⟩, ?_⟩
  refine h W σ env H _ _ hR q fun v d H1 g1 r1 q1 => ?_
  obtain ⟨p, rfl, q1⟩ := q1
  have r := hR.go g1
  obtain ⟨r2, ev⟩ := r.mut (vs := vs ++ [v]) ha hs hx (dqa_app (da.mv g1.vw) (.cons r1.dp .nil))
  exact ⟨a, vs, v, rfl, rfl, g1.at oa hv, small1000 (by rw [dqa_len da]; exact hl), hE.nx W _ _ _ r2 (by rw [ev]; exact hV.trans g1.vw) q1⟩
theorem qs_app (i : Nat) (hN : X.N[i]? = some x := by rfl) (hv : Vis X.env.scope x := by first | exact .inl rfl | exact .inr (.inl rfl) | exact .inr (.inr rfl) | assumption) (he : QE X B m0 e te pe) (hd : (x == ("__debug__" : Str)) = false := by decide) (hcd : (x == ("__classdict__" : Str)) = false := by decide)
    (hbase : attributeBase (.Name x pos') "append" X.env (eval (.Name x pos') X.env) = eval (.Name x pos') X.env := by rfl)
    (hfew : ((backTo cpos (starEach [e] X.env)).all (fun x => !x.1) && (backToKw cpos (keywordEach [] X.env)).all (fun x => x.1.isSome) && decide ([e].length + ([] : List Keyword).length + (if ([] : List Keyword).isEmpty then 0 else 1) < 30)) = true := by rfl)
    (hline : (apos.endLine == cpos.line) = true := by rfl) (hs : starEach [e] X.env = (false, eval e X.env) :: starEach [] X.env := by rfl) (hplain : (backTo cpos (starEach [] X.env)).any (·.1) = false := by rfl)
    (hsw : swapsWith (.Call (.Attribute (.Name x pos') "append" apos) [e] [] cpos) none pos.line X.env = pure false := by rfl) :
    QS X B m0 (.Expr (.Call (.Attribute (.Name x pos') "append" apos) [e] [] cpos) pos) (tDrop (tBM X.K "list" rAppend (tVar i) (tCons te tNil))) (pApp i pe) :=
  ⟨ps_expr (pe_bm PySem.F.plainAttrs_list PySem.F.slot_list_append PySem.F.type_list_append mt_append (pe_var hN hv hd hcd) (pa_cons he.p pa_nil hs) hbase hfew hline hs hplain) hsw, ss_app (b := bs X B m0) he.s⟩
/-- xs[c] = e -/
def pSetIx (i : Nat) (pe pj : PTE) : PTS := fun Pn env => ∃ ds, env[i]? = some (.own ds) ∧ pe env fun d => ∃ p, d = .py p ∧ pj env fun d2 => ∃ (n : Int) (j : Nat), d2 = .py (.int n) ∧ ixN ds.length n = some j ∧ Pn.nx (env.set i (.own (ds.set j p)))
theorem ss_setIx {b : Bs} (h : SE b te pe) (hj : SE b ti pj) : SS b (tAsg te (gSub (tVar i) ti rSetL)) (pSetIx i pe pj) := fun V W σ env H Dn Pn hR hV hE hp => by
  obtain ⟨ds, e, q⟩ := hp
  obtain ⟨a, vs, ha, hs, hx, hv, da⟩ := hR.ownAt e
  have oa := (hR.own i a ha).2.1
  refine h W σ env H _ _ hR q fun v d H1 g1 r1 q1 => ?_
  obtain ⟨p, rfl, q1⟩ := q1
  refine ⟨.ref a, hs, ?_⟩
  refine hj W σ env H1 _ _ (hR.go g1) q1 fun v2 d2 H2 g2 r2 q2 => ?_
  obtain ⟨n, j, rfl, hn, q2⟩ := q2
  cases r2.dp
  have r := hR.go (g1.trans g2)
  obtain ⟨r3, ev⟩ := r.mut (vs := vs.set j v) ha hs hx (dqa_set j (da.mv (g1.trans g2).vw) (r1.dp.mv g2.vw))
  exact ⟨a, vs, n, j, rfl, rfl, (g1.trans g2).at oa hv, by rw [dqa_len da]; exact hn, hE.nx W _ _ _ r3 (by rw [ev]; exact hV.trans (g1.trans g2).vw) q2⟩
theorem qs_setIx (i : Nat) (hN : X.N[i]? = some x := by rfl) (hv : Vis X.env.scope x := by first | exact .inl rfl | exact .inr (.inl rfl) | exact .inr (.inr rfl) | assumption) (he : QE X B m0 e te pe) (hj : QE X B m0 c ti pj) (hd : (x == ("__debug__" : Str)) = false := by decide) (hcd : (x == ("__classdict__" : Str)) = false := by decide)
    (ha : ∀ v, assign (.Subscript (.Name x pos') c apos) X.env v = (do
      let ov ← holding [v] (eval (.Name x pos') X.env)
      let iv ← holding [v, ov] (eval c X.env)
      standAt apos
      holding [v, ov, iv] (setItem ov iv v)
      release [v, ov, iv] []) := by intro _; rfl) (hs : swapsWithSole [.Subscript (.Name x pos') c apos] e pos.line X.env = pure false := by rfl) (hw : swappedStores [.Subscript (.Name x pos') c apos] e X.env = pure none := by rfl) (h1 : (assignEach [.Subscript (.Name x pos') c apos] X.env).map (·.2) = [assign (.Subscript (.Name x pos') c apos) X.env] := by rfl) :
    QS X B m0 (.Assign [.Subscript (.Name x pos') c apos] e pos) (tAsg te (gSub (tVar i) ti rSetL)) (pSetIx i pe pj) :=
  ⟨ps_asg he.p (pg_sub (pe_var hN hv hd hcd) hj.p set_list ha) hs hw h1, ss_setIx he.s hj.s⟩
end
/-! ### exceptions, calls of defs -/
structure Ex where
  cls : Value
  fld : Option (Str × PyData)
def XR (K : PySem.W.Frag) (m : Md) (H : Hp) (cls : Value) (d : Option Addr) (e : Ex) : Prop := cls = e.cls ∧
  match e.fld with
  | none => d = none
  | some (f, p) => ∃ a v, d = some a ∧ H a = some (.xd [(f, v)]) ∧ Dq K (vw m H) v p
def LkX (b : Bs) (E : L2.St → XK) (XE : PEnv → Ex → Prop) : Prop := ∀ W σ env H cls d e, Rl b W σ env H → XR b.K W.m H cls d e → XE env e → E σ cls d H
theorem lk0 {b : Bs} : LkX b (fun _ => E0) (fun _ _ => False) := fun _ _ _ _ _ _ _ _ _ h => h.elim
abbrev PSp := List D → (D → Prop) → (Ex → Prop) → Prop
def spP (K : PySem.W.Frag) (ps : PSp) : Sp := fun vs H Q E => ∃ (m : Md) (ds : List D) (P : D → Prop) (XX : Ex → Prop), Ok m H ∧ RDs K m H vs ds ∧ ps ds P XX ∧ (∀ v d H', Go m H H' → RD K m H' v d → P d → Q v H') ∧
  ∀ e cls dx H', Go m H H' → XR K m H' cls dx e → XX e → E cls dx H'
def pFn (ps : PSp) (XE : PEnv → Ex → Prop) (pa : PTA) : PTE := fun env P => pa env fun ds => ps ds P (XE env)
theorem se_fn {b : Bs} {ps : PSp} {E : L2.St → XK} {XE : PEnv → Ex → Prop} {tA : TA} {pA : PTA} (lk : LkX b E XE) (h : SA b tA pA) : SE b (tCallS (spP b.K ps) E tA) (pFn ps XE pA) := fun W σ env H Q P hR hp k =>
  h W σ env H _ _ hR hp fun vs ds H1 g1 r1 q1 => ⟨W.m, ds, P, XE env, g1.ok, r1, q1, fun v d H' g r p => k v d H' (g1.trans g) r p, fun e cls dx H' g x q => lk W σ env H' cls dx e (hR.go (g1.trans g)) x q⟩
/-- keywords in order, on both sides -/
structure GOk (gV : List V → List V → List V) (gD : List D → List D → List D) : Prop where
  rel : ∀ {K : PySem.W.Frag} {m : Md} {H : Hp} {vs zs : List V} {ds es : List D}, RDs K m H vs ds → RDs K m H zs es → RDs K m H (gV vs zs) (gD ds es)
def pFnK (ps : PSp) (gD : List D → List D → List D) (XE : PEnv → Ex → Prop) (pa pk : PTA) : PTE := fun env P => pa env fun ds => pk env fun es => ps (gD ds es) P (XE env)
theorem se_fnK {b : Bs} {ps : PSp} {gV : List V → List V → List V} {gD : List D → List D → List D} {E : L2.St → XK} {XE : PEnv → Ex → Prop} {tA tk : TA} {pA pk : PTA} (lk : LkX b E XE) (go : GOk gV gD) (h : SA b tA pA) (hk : SA b tk pk) : SE b (tCK (spP b.K ps) gV E tA tk) (pFnK ps gD XE pA pk) := fun W σ env H Q P hR hp k =>
  h W σ env H _ _ hR hp fun vs ds H1 g1 r1 q1 => hk W σ env H1 _ _ (hR.go g1) q1 fun zs es H2 g2 r2 q2 =>
    ⟨W.m, gD ds es, P, XE env, g2.ok, go.rel (r1.mv g2.vw rfl) r2, q2, fun v d H' g r p => k v d H' ((g1.trans g2).trans g) r p, fun e cls dx H' g x q => lk W σ env H' cls dx e (hR.go ((g1.trans g2).trans g)) x q⟩
section
variable {X : Cx} {B : Hp} {m0 : Md} {k : Nat} {st : Stmt} {prs ks : List Str} {ps : PSp} {E : L2.St → XK} {XE : PEnv → Ex → Prop} {x : Str} {p pos : Pos} {e : Expr} {es : List Expr} {kws : List Keyword} {tA tk : TA} {pA pk : PTA} {te : TE} {pe : PTE}
  {g : List Value → List Value → List Value} {gV : List V → List V → List V} {gD : List D → List D → List D}
theorem qe_c {K' : PySem.W.Frag} (c : FnAt X.prog X.w X.K X.mg X.base st k x prs (spP K' ps)) (gu : Gu X.base X.A) (hr : Room k X.A) (hx : ∀ σ, PassesAt (L2.CX X.prog X.w) X σ (E σ)) (lk : LkX (bs X B m0) E XE) (ha : QA X B m0 (e :: es) tA pA)
    (hg : Gl X x := by rfl) (hdb : (x == ("__debug__" : Str)) = false := by decide) (he : starEach (e :: es) X.env = (false, eval e X.env) :: starEach es X.env := by rfl)
    (hpl : (backTo pos (starEach es X.env)).any (·.1) = false := by rfl) (hK : X.K = K' := by rfl) : QE X B m0 (.Call (.Name x p) (e :: es) [] pos) (tCallS (spP K' ps) E tA) (pFn ps XE pA) := by
  subst hK
  exact ⟨pe_c c gu hr hx ha.p hg hdb he hpl, se_fn (b := bs X B m0) lk ha.s⟩
structure QK (X : Cx) (B : Hp) (m0 : Md) (kws : List Keyword) (ta : TA) (pa : PTA) : Prop where
  p : PK X kws ta
  s : SA (bs X B m0) ta pa
theorem qk_nil : QK X B m0 [] tNil pNil := ⟨pk_nil, sa_nil⟩
theorem qk_cons {nm : Option Str} {kpos : Pos} (h : QE X B m0 e te pe) (g : QK X B m0 kws tA pA) : QK X B m0 (⟨nm, e, kpos⟩ :: kws) (tCons te tA) (pCons pe pA) := ⟨pk_cons h.p g.p, sa_cons h.s g.s⟩
theorem qe_ck0 {K' : PySem.W.Frag} (c : FnAt X.prog X.w X.K X.mg X.base st k x prs (spP K' ps)) (kw : KwIs st x prs ks g gV) (go : GOk gV gD) (gu : Gu X.base X.A) (hr : Room k X.A) (hx : ∀ σ, PassesAt (L2.CX X.prog X.w) X σ (E σ)) (lk : LkX (bs X B m0) E XE) (hkw : QK X B m0 kws tk pk)
    (hg : Gl X x := by rfl) (hall : (backToKw pos (keywordEach kws X.env)).all (·.1.isSome) = true := by rfl) (hks : (backToKw pos (keywordEach kws X.env)).filterMap (·.1) = ks := by rfl)
    (hdb : (x == ("__debug__" : Str)) = false := by decide)
    (hpl : ((backTo pos (starEach [] X.env)).any (·.1) || (backToKw pos (keywordEach kws X.env)).any (·.1.isNone)) = false := by rfl) (hK : X.K = K' := by rfl) : QE X B m0 (.Call (.Name x p) [] kws pos) (tCK (spP K' ps) gV E tNil tk) (pFnK ps gD XE pNil pk) := by
  subst hK
  exact ⟨pe_ck0 c kw gu hr hx hkw.p hg hall hks hdb hpl, se_fnK (b := bs X B m0) lk go sa_nil hkw.s⟩
theorem qe_ck {K' : PySem.W.Frag} (c : FnAt X.prog X.w X.K X.mg X.base st k x prs (spP K' ps)) (kw : KwIs st x prs ks g gV) (go : GOk gV gD) (gu : Gu X.base X.A) (hr : Room k X.A) (hx : ∀ σ, PassesAt (L2.CX X.prog X.w) X σ (E σ)) (lk : LkX (bs X B m0) E XE) (ha : QA X B m0 (e :: es) tA pA) (hkw : QK X B m0 kws tk pk)
    (hg : Gl X x := by rfl) (hall : (backToKw pos (keywordEach kws X.env)).all (·.1.isSome) = true := by rfl) (hks : (backToKw pos (keywordEach kws X.env)).filterMap (·.1) = ks := by rfl)
    (hdb : (x == ("__debug__" : Str)) = false := by decide) (he : starEach (e :: es) X.env = (false, eval e X.env) :: starEach es X.env := by rfl)
    (hpl : ((backTo pos (starEach (e :: es) X.env)).any (·.1) || (backToKw pos (keywordEach kws X.env)).any (·.1.isNone)) = false := by rfl) (hK : X.K = K' := by rfl) : QE X B m0 (.Call (.Name x p) (e :: es) kws pos) (tCK (spP K' ps) gV E tA tk) (pFnK ps gD XE pA pk) := by
  subst hK
  exact ⟨pe_ck c kw gu hr hx ha.p hkw.p hg hall hks hdb he hpl, se_fnK (b := bs X B m0) lk go ha.s hkw.s⟩
def pRaise (XE : PEnv → Ex → Prop) (e : Ex) : PTS := fun _ env => XE env e
theorem qs_raise {C : Value} {W : WX} (hc : X.calm = true) (tk : Takes X W) (mk : PMk X e (fun _ H Q => Q C none H)) (lk : LkX (bs X B m0) (WE W) XE) : QS X B m0 (.Raise (some e) none pos) (fun _ σ H => W C none σ H) (pRaise XE ⟨C, none⟩) :=
  ⟨ps_raise hc tk mk, fun V W' σ env H Dn Pn hR hV hE hp => lk W' σ env H C none _ hR ⟨rfl, rfl⟩ hp⟩
end
/-! ### defs -/
def startE (N : List Str) (ds : List D) : PEnv := ds ++ List.replicate (N.length - ds.length) .no
theorem sl_start {K : PySem.W.Frag} {m : Md} {H : Hp} (N : List Str) : ∀ {vs : List V} {ds : List D}, RDs K m H vs ds → ∀ (n : Nat) (i : Nat) (d : D), (ds ++ List.replicate n .no)[i]? = some d → ∃ o, (vs.map some ++ List.replicate n none)[i]? = some o ∧ SR K m H none o d
  | _, _, .nil, n, i, d, e => by
    have e' : (List.replicate n D.no)[i]? = some d := e
    have h := List.getElem?_replicate (n := n) (a := D.no) (i := i)
    rw [h] at e'
    split at e'
    · rename_i c
      cases e'
      refine ⟨none, ?_, trivial⟩
      show (List.replicate n (none : Option V))[i]? = some none
      rw [List.getElem?_replicate, if_pos c]
    · cases e'
  | _, _, .cons r rr, n, 0, d, e => by
    cases e
    exact ⟨_, rfl, .of_rd r⟩
  | _, _, .cons r rr, n, i + 1, d, e => sl_start N rr n i d e
theorem vd_some {dk : Option (Addr × Addr)} {H : Hp} {a : Addr} {o : HO} (h : vd dk H a = some o) : ∀ d l, dk = some (d, l) → a ≠ d ∧ a ≠ l := fun d l e => by
  subst e
  exact ⟨(hid_some h).1, (hid_some h).2.1⟩
theorem okP {P : Program} {w : World} {K : PySem.W.Frag} {mg : Str → Option Value} {base : Heap} {x : Str} {st : Stmt} {f : Addr} {fd : FuncData} {N prs : List Str} {k : Nat} {ps : PSp}
    (F : Fun K x x st f fd) (S : FnScope N prs (defScope st)) (hlen : ∀ ds PP XX, ps ds PP XX → ds.length = prs.length)
    (hbody : ∀ (cdv : Value) (A : Around) (out : List Env) (s : Shared) (H : Hp) (E : XK) (B : Hp) (m0 : Md) (XX : Ex → Prop),
      Gu base (A.deeper (envOfC x (defScope st) s.heap.objs.size f cdv)) → Room k (A.deeper (envOfC x (defScope st) s.heap.objs.size f cdv)) →
      LkX ⟨K, B, m0⟩ (fun _ => E) (fun _ => XX) →
      ∃ t p, QSs (cxOf (L2.CX P w) P w K mg base N x (defScope st) f cdv A out s H E) B m0 (defBody st) t p ∧ ∀ ds PP, ps ds PP XX → p { nx := fun _ => PP (.py .none), rt := PP } (startE N ds)) :
    FG P w K mg base (k + 1) f fd prs (spP K ps) := by
  refine okX F S (fun vs H Q E h => ?_) (fun cdv A out s H vs Q E gu hr h => ?_)
  · obtain ⟨m, ds, PP, XX, ok, rd, hp, _⟩ := h
    rw [rd.len]
    exact hlen ds PP XX hp
  · obtain ⟨m, ds, PP, XX, ok, rd, hp, hQ, hE⟩ := h
    have toGo : ∀ {W : Wd} {σ : L2.St} {env : PEnv} {H' : Hp}, Rl ⟨K, vd m.dk H, m⟩ W σ env H' → Go m H H' := fun {W σ env H'} r => by
      refine ⟨r.ok0, fun a o e => ?_⟩
      have := r.same a o e
      rw [vd_off (m := m) (vd_some e)]
      exact this
    obtain ⟨t, p, q, h⟩ := hbody cdv A out s H E (vd m.dk H) m XX gu hr (fun W σ env H' cls d e r x q => hE e cls d H' (toGo r) (by
      obtain ⟨x1, x2⟩ := x
      refine ⟨x1, ?_⟩
      cases hf : e.fld with
      | none => rw [hf] at x2; exact x2
      | some fp =>
        rw [hf] at x2
        obtain ⟨a, v, y1, y2, y3⟩ := x2
        exact ⟨a, v, y1, y2, (r.out (rdp y3)).dp⟩) q)
    refine ⟨t, q.p, ?_⟩
    have hl : vs.length = ds.length := rd.len
    have R0 : Rl ⟨K, vd m.dk H, m⟩ ⟨m, fun _ => none⟩ (L2.start N vs) (startE N ds) H :=
      ⟨ok, rfl, fun a h => h, vd_sub, fun a o e => vd_some e, (fun _ h => .inl h), (fun i a e => nomatch (show (none : Option Addr) = some a from e)), (fun i j a e => nomatch (show (none : Option Addr) = some a from e)), (by
        show (vs.map some ++ List.replicate (N.length - vs.length) none).length = _
        unfold startE
        rw [List.length_append, List.length_append, List.length_map, List.length_replicate, List.length_replicate, hl]), (fun i d e => by
        have := sl_start N rd (N.length - ds.length) i d e
        show ∃ o, (vs.map some ++ List.replicate (N.length - vs.length) none)[i]? = some o ∧ _
        rw [hl]
        exact this)⟩
    exact q.s (fun _ => none) ⟨m, fun _ => none⟩ _ _ H _ { nx := fun _ => PP (.py .none), rt := PP } R0 (fun a o e => by cases e)
      ⟨fun W σ env H' r _ pp => hQ .non _ H' (toGo r) (rdp .non) pp, fun _ _ _ _ _ _ z => (show False from z).elim, fun _ _ _ _ _ _ z => (show False from z).elim, fun W σ env H' v d r rv pp => hQ v d H' (toGo r) (r.out rv) pp⟩ (h ds PP hp)
end VP

/-! VP6: more statements and readings; the deck; user lemmas -/
namespace VP
open PySem PySem.Spec PyProof.Rows L2 VB VZ VC RT
/-! ### x, y = new, new -/
section
variable {b : Bs} {te1 te2 : TE} {pf1 pf2 : PTL} {pe1 pe2 : PTE} {i j : Nat}
def pParOO (i j : Nat) (p1 p2 : PTL) : PTS := fun Pn env => p1 env fun ds => p2 env fun es => Pn.nx ((env.set i (.own ds)).set j (.own es))
def pParOX (i j : Nat) (p1 : PTL) (p2 : PTE) : PTS := fun Pn env => p1 env fun ds => p2 env fun e => Pn.nx ((env.set i (.own ds)).set j e)
def pParXO (i j : Nat) (p1 : PTE) (p2 : PTL) : PTS := fun Pn env => p1 env fun d => p2 env fun es => Pn.nx ((env.set i d).set j (.own es))
theorem ss_parOO (hij : i ≠ j) (h1 : SF b te1 pf1) (h2 : SF b te2 pf2) : SS b (tPar i j (tCons te1 (tCons te2 tNil))) (pParOO i j pf1 pf2) := fun V W σ env H Dn Pn hR hV hE hp =>
  h1 W σ env H _ _ hR hp fun p1 vs ds H1 g1 n1 e1 da q1 => by
    have r1 : Rl b ⟨W.m.add p1, W.ow⟩ σ env H1 := hR.hide g1 n1 (by rw [e1]; intro z; cases z)
    refine h2 ⟨W.m.add p1, W.ow⟩ σ env H1 _ _ r1 q1 fun p2 ws es H2 g2 n2 e2 db q2 => ?_
    have o1 : (W.m.add p1).off p1 := hR.ok.off n1
    obtain ⟨s1, v1⟩ := hR.setOwn (i := i) g1 n1 e1 da
    have g2' : Go (⟨W.m.add p1, fun k => if k = i then some p1 else W.ow k⟩ : Wd).m H1 H2 := g2
    obtain ⟨s2, v2⟩ := s1.setOwn (i := j) g2' n2 e2 db
    exact ⟨.ref p1, .ref p2, rfl, hE.nx _ _ _ H2 s2 (hV.trans (v1.trans v2)) q2⟩
theorem ss_parOX (h1 : SF b te1 pf1) (h2 : SE b te2 pe2) : SS b (tPar i j (tCons te1 (tCons te2 tNil))) (pParOX i j pf1 pe2) := fun V W σ env H Dn Pn hR hV hE hp =>
  h1 W σ env H _ _ hR hp fun p1 vs ds H1 g1 n1 e1 da q1 => by
    have r1 : Rl b ⟨W.m.add p1, W.ow⟩ σ env H1 := hR.hide g1 n1 (by rw [e1]; intro z; cases z)
    refine h2 ⟨W.m.add p1, W.ow⟩ σ env H1 _ _ r1 q1 fun v d H2 g2 rv q2 => ?_
    obtain ⟨s1, v1⟩ := hR.setOwn (i := i) g1 n1 e1 da
    have g2' : Go (⟨W.m.add p1, fun k => if k = i then some p1 else W.ow k⟩ : Wd).m H1 H2 := g2
    exact ⟨.ref p1, v, rfl, hE.nx _ _ _ H2 ((s1.go g2').set rv) (hV.trans (v1.trans g2.vw)) q2⟩
theorem ss_parXO (h1 : SE b te1 pe1) (h2 : SF b te2 pf2) : SS b (tPar i j (tCons te1 (tCons te2 tNil))) (pParXO i j pe1 pf2) := fun V W σ env H Dn Pn hR hV hE hp =>
  h1 W σ env H _ _ hR hp fun v d H1 g1 rv q1 => by
    refine h2 W σ env H1 _ _ (hR.go g1) q1 fun p2 ws es H2 g2 n2 e2 db q2 => ?_
    have s1 := (hR.go g1).set (i := i) rv
    obtain ⟨s2, v2⟩ := s1.setOwn (i := j) g2 n2 e2 db
    exact ⟨v, .ref p2, rfl, hE.nx _ _ _ H2 s2 ((hV.trans g1.vw).trans v2) q2⟩
end
section
variable {X : Cx} {B : Hp} {m0 : Md} {te1 te2 : TE} {pf1 pf2 : PTL} {pe1 pe2 : PTE} {i j : Nat} {x y : Str} {a c : Expr} {px py pt pos : Pos} {kt k2 : Nat} {pt2 : Pos}
theorem qs_parOO {kt k2 pt2} (hc : X.calm = true) (hN : X.N.Nodup) (hi : X.N[i]? = some x) (hj : X.N[j]? = some y) (hij : i ≠ j) (hx : X.env.scope.names.lookup x = some .local) (hy : X.env.scope.names.lookup y = some .local)
    (h1 : QF X B m0 a te1 pf1) (h2 : QF X B m0 c te2 pf2) (hw : swappedStores [.Tuple [.Name x px, .Name y py] kt pt] (.Tuple [a, c] k2 pt2) X.env = pure (some [x, y])) (st1 : starEach [a, c] X.env = (false, eval a X.env) :: starEach [c] X.env := by rfl) (st2 : starEach [c] X.env = (false, eval c X.env) :: starEach [] X.env := by rfl)
    (hs : swapsWithSole [.Tuple [.Name x px, .Name y py] kt pt] (.Tuple [a, c] k2 pt2) pos.line X.env = pure false := by rfl) :
    QS X B m0 (.Assign [.Tuple [.Name x px, .Name y py] kt pt] (.Tuple [a, c] k2 pt2) pos) (tPar i j (tCons te1 (tCons te2 tNil))) (pParOO i j pf1 pf2) := ⟨ps_par hc hN hi hj hij hx hy (pa_cons h1.p (pa_cons h2.p pa_nil st2) st1) hw hs, ss_parOO hij h1.s h2.s⟩
theorem qs_parOX {kt k2 pt2} (hc : X.calm = true) (hN : X.N.Nodup) (hi : X.N[i]? = some x) (hj : X.N[j]? = some y) (hij : i ≠ j) (hx : X.env.scope.names.lookup x = some .local) (hy : X.env.scope.names.lookup y = some .local)
    (h1 : QF X B m0 a te1 pf1) (h2 : QE X B m0 c te2 pe2) (hw : swappedStores [.Tuple [.Name x px, .Name y py] kt pt] (.Tuple [a, c] k2 pt2) X.env = pure (some [x, y])) (st1 : starEach [a, c] X.env = (false, eval a X.env) :: starEach [c] X.env := by rfl) (st2 : starEach [c] X.env = (false, eval c X.env) :: starEach [] X.env := by rfl)
    (hs : swapsWithSole [.Tuple [.Name x px, .Name y py] kt pt] (.Tuple [a, c] k2 pt2) pos.line X.env = pure false := by rfl) :
    QS X B m0 (.Assign [.Tuple [.Name x px, .Name y py] kt pt] (.Tuple [a, c] k2 pt2) pos) (tPar i j (tCons te1 (tCons te2 tNil))) (pParOX i j pf1 pe2) := ⟨ps_par hc hN hi hj hij hx hy (pa_cons h1.p (pa_cons h2.p pa_nil st2) st1) hw hs, ss_parOX h1.s h2.s⟩
theorem qs_parXO {kt k2 pt2} (hc : X.calm = true) (hN : X.N.Nodup) (hi : X.N[i]? = some x) (hj : X.N[j]? = some y) (hij : i ≠ j) (hx : X.env.scope.names.lookup x = some .local) (hy : X.env.scope.names.lookup y = some .local)
    (h1 : QE X B m0 a te1 pe1) (h2 : QF X B m0 c te2 pf2) (hw : swappedStores [.Tuple [.Name x px, .Name y py] kt pt] (.Tuple [a, c] k2 pt2) X.env = pure (some [x, y])) (st1 : starEach [a, c] X.env = (false, eval a X.env) :: starEach [c] X.env := by rfl) (st2 : starEach [c] X.env = (false, eval c X.env) :: starEach [] X.env := by rfl)
    (hs : swapsWithSole [.Tuple [.Name x px, .Name y py] kt pt] (.Tuple [a, c] k2 pt2) pos.line X.env = pure false := by rfl) :
    QS X B m0 (.Assign [.Tuple [.Name x px, .Name y py] kt pt] (.Tuple [a, c] k2 pt2) pos) (tPar i j (tCons te1 (tCons te2 tNil))) (pParXO i j pe1 pf2) := ⟨ps_par hc hN hi hj hij hx hy (pa_cons h1.p (pa_cons h2.p pa_nil st2) st1) hw hs, ss_parXO h1.s h2.s⟩
end
/-! ### xs.append(ys.pop(e)) -/
section
variable {b : Bs} {te : TE} {pe : PTE} {i j : Nat}
def pAppPop (i j : Nat) (pe : PTE) : PTS := fun Pn env => ∃ ds ls, env[i]? = some (.own ds) ∧ env[j]? = some (.own ls) ∧ ds.length ≤ 1000 ∧ ls.length ≤ 1000 ∧ pe env fun d => ∃ (k : Nat) (z : PyData), d = .py (.int k) ∧ ls[k]? = some z ∧ Pn.nx ((env.set j (.own (ls.eraseIdx k))).set i (.own (ds ++ [z])))
theorem ss_appPop (hij : i ≠ j) (h : SE b te pe) : SS b (tDrop (tBM b.K "list" rAppend (tVar i) (tCons (tBM b.K "list" rPopAt (tVar j) (tCons te tNil)) tNil))) (pAppPop i j pe) := fun V W σ env H Dn Pn hR hV hE hp => by
  obtain ⟨ds, ls, e1, e2, l1, l2, q⟩ := hp
  obtain ⟨a, vs, ha, hs, hx, hv, da⟩ := hR.ownAt e1
  obtain ⟨c, ws, hc, hs2, hx2, hv2, db⟩ := hR.ownAt e2
  have oa := (hR.own i a ha).2.1
  have oc := (hR.own j c hc).2.1
  have nac : c ≠ a := fun z => hij (hR.inj i j a ha (z ▸ hc))
  refine ⟨.ref a, hs, .inl ⟨rfl, _, SqL.of hv⟩, ?_⟩
  refine ⟨.ref c, hs2, .inl ⟨rfl, _, SqL.of hv2⟩, ?_⟩
  refine h W σ env H _ _ hR q fun v d H1 g1 r1 q1 => ?_
  obtain ⟨k, z, rfl, hz, q1⟩ := q1
  cases r1.dp
  have r := hR.go g1
  have hk : k < ls.length := (List.getElem?_eq_some_iff.mp hz).1
  obtain ⟨y, hy, dy⟩ := dqa_get' (db.mv g1.vw) hz
  have hv1 : H1 c = some (.lst ws) := g1.at oc hv2
  obtain ⟨r2, ev2⟩ := r.mut (vs := ws.eraseIdx k) hc hs2 hx2 (dqa_erase k (db.mv g1.vw))
  have ha2 : upd H1 c (.lst (ws.eraseIdx k)) a = some (.lst vs) := by rw [upd_ne nac.symm]; exact g1.at oa hv
  obtain ⟨r3, ev3⟩ := r2.mut (vs := vs ++ [y]) ha hs hx (by rw [ev2]; exact dqa_app (da.mv g1.vw) (.cons dy .nil))
  refine ⟨c, ws, _, k, y, rfl, rfl, hv1, by omega, by omega, PySem.seqIndex_of (by omega) (by rw [dqa_len db]; omega), hy, ?_⟩
  exact ⟨a, vs, y, rfl, rfl, ha2, small1000 (by rw [dqa_len da]; exact l1), hE.nx W _ _ _ r3 (by rw [ev3, ev2]; exact hV.trans g1.vw) q1⟩
end
section
variable {X : Cx} {B : Hp} {m0 : Md} {e : Expr} {te : TE} {pe : PTE} {i j : Nat} {x y : Str} {px py pos apos cpos apos2 cpos2 : Pos}
theorem qs_appPop (i j : Nat) (hij : i ≠ j) (hN : X.N[i]? = some x := by rfl) (hv : Vis X.env.scope x := by first | exact .inl rfl | exact .inr (.inl rfl) | exact .inr (.inr rfl) | assumption) (hN2 : X.N[j]? = some y := by rfl) (hv2 : Vis X.env.scope y := by first | exact .inl rfl | exact .inr (.inl rfl) | exact .inr (.inr rfl) | assumption) (he : QE X B m0 e te pe)
    (hd : (x == ("__debug__" : Str)) = false := by decide) (hcd : (x == ("__classdict__" : Str)) = false := by decide) (hd2 : (y == ("__debug__" : Str)) = false := by decide) (hcd2 : (y == ("__classdict__" : Str)) = false := by decide)
    (hp2 : PE X (.Call (.Attribute (.Name y py) "pop" apos2) [e] [] cpos2) (tBM X.K "list" rPopAt (tVar j) (tCons te tNil)) → PE X (.Call (.Attribute (.Name x px) "append" apos) [.Call (.Attribute (.Name y py) "pop" apos2) [e] [] cpos2] [] cpos) (tBM X.K "list" rAppend (tVar i) (tCons (tBM X.K "list" rPopAt (tVar j) (tCons te tNil)) tNil)))
    (hp1 : PE X (.Call (.Attribute (.Name y py) "pop" apos2) [e] [] cpos2) (tBM X.K "list" rPopAt (tVar j) (tCons te tNil)))
    (hsw : swapsWith (.Call (.Attribute (.Name x px) "append" apos) [.Call (.Attribute (.Name y py) "pop" apos2) [e] [] cpos2] [] cpos) none pos.line X.env = pure false := by rfl) :
    QS X B m0 (.Expr (.Call (.Attribute (.Name x px) "append" apos) [.Call (.Attribute (.Name y py) "pop" apos2) [e] [] cpos2] [] cpos) pos) (tDrop (tBM X.K "list" rAppend (tVar i) (tCons (tBM X.K "list" rPopAt (tVar j) (tCons te tNil)) tNil))) (pAppPop i j pe) :=
  ⟨ps_expr (hp2 hp1) hsw, ss_appPop (b := bs X B m0) hij he.s⟩
/-- xs.extend(e), e new -/
def pExt (i : Nat) (pf : PTL) : PTS := fun Pn env => ∃ ds, env[i]? = some (.own ds) ∧ pf env fun es => ds.length + es.length ≤ 1000 ∧ Pn.nx (env.set i (.own (ds ++ es)))
theorem ss_ext {b : Bs} {pf : PTL} (h : SF b te pf) : SS b (tDrop (tBM b.K "list" rExtend (tVar i) (tCons te tNil))) (pExt i pf) := fun V W σ env H Dn Pn hR hV hE hp => by
  obtain ⟨ds, e, q⟩ := hp
  obtain ⟨a, vs, ha, hs, hx, hv, da⟩ := hR.ownAt e
  have oa := (hR.own i a ha).2.1
  refine ⟨.ref a, hs, .inl ⟨rfl, _, SqL.of hv⟩, ?_⟩
  refine h W σ env H _ _ hR q fun p ws es H1 g1 hn hw db q1 => ?_
  obtain ⟨hl, q1⟩ := q1
  have r := hR.go g1
  obtain ⟨r2, ev⟩ := r.mut (vs := vs ++ ws) ha hs hx (dqa_app (da.mv g1.vw) (db.mv vw_addsub))
  exact ⟨a, p, vs, ws, rfl, rfl, g1.at oa hv, hw, Nat.le_of_lt (small1000 (by rw [dqa_len da, dqa_len db]; exact hl)), hE.nx W _ _ _ r2 (by rw [ev]; exact hV.trans g1.vw) q1⟩
theorem qs_ext {pf : PTL} (i : Nat) (hN : X.N[i]? = some x := by rfl) (hv : Vis X.env.scope x := by first | exact .inl rfl | exact .inr (.inl rfl) | exact .inr (.inr rfl) | assumption) (he : QF X B m0 e te pf) (hd : (x == ("__debug__" : Str)) = false := by decide) (hcd : (x == ("__classdict__" : Str)) = false := by decide)
    (hbase : attributeBase (.Name x px) "extend" X.env (eval (.Name x px) X.env) = eval (.Name x px) X.env := by rfl)
    (hfew : ((backTo cpos (starEach [e] X.env)).all (fun x => !x.1) && (backToKw cpos (keywordEach [] X.env)).all (fun x => x.1.isSome) && decide ([e].length + ([] : List Keyword).length + (if ([] : List Keyword).isEmpty then 0 else 1) < 30)) = true := by rfl)
    (hline : (apos.endLine == cpos.line) = true := by rfl) (hs : starEach [e] X.env = (false, eval e X.env) :: starEach [] X.env := by rfl) (hplain : (backTo cpos (starEach [] X.env)).any (·.1) = false := by rfl)
    (hsw : swapsWith (.Call (.Attribute (.Name x px) "extend" apos) [e] [] cpos) none pos.line X.env = pure false := by rfl) :
    QS X B m0 (.Expr (.Call (.Attribute (.Name x px) "extend" apos) [e] [] cpos) pos) (tDrop (tBM X.K "list" rExtend (tVar i) (tCons te tNil))) (pExt i pf) :=
  ⟨ps_expr (pe_bm PySem.F.plainAttrs_list PySem.F.slot_list_extend PySem.F.type_list_extend mt_extend (pe_var hN hv hd hcd) (pa_cons he.p pa_nil hs) hbase hfew hline hs hplain) hsw, ss_ext (b := bs X B m0) he.s⟩
end
/-! ### join, index of a text, lists' index -/
section
variable {X : Cx} {B : Hp} {m0 : Md} {b : Bs} {o e : Expr} {to te : TE} {po pe : PTE} {apos pos : Pos}
abbrev rJoin (K : PySem.W.Frag) : V → List V → Hp → VK → Prop := fun x xs H Q => ∃ (a : Str) (p : Addr) (ys : List Str), x = V.str a ∧ xs = [V.ref p] ∧ (SqL K H p (ys.map V.str) ∨ SqT K H p (ys.map V.str)) ∧ (ys.map fun x => x.length).sum + ys.length * a.length ≤ 16777216 ∧ Q (V.str (Txt.join a ys)) H
def pJoin (po pe : PTE) : PTE := fun env P => po env fun x => ∃ a : Str, x = .py (.str a) ∧ pe env fun d => ∃ ys : List Str, (d = .py (.list (ys.map .str)) ∨ d = .py (.tuple (ys.map .str))) ∧ (ys.map fun x => x.length).sum + ys.length * a.length ≤ 16777216 ∧ P (.py (.str (Txt.join a ys)))
theorem qe_join {K' : PySem.W.Frag} (ho : QE X B m0 o to po) (he : QE X B m0 e te pe) (hs : starEach [e] X.env = [(false, eval e X.env)] := by rfl) (hbase : attributeBase o "join" X.env (eval o X.env) = eval o X.env := by rfl) (hline : (apos.endLine == pos.line) = true := by rfl) (hK : X.K = K' := by rfl) :
    QE X B m0 (.Call (.Attribute o "join" apos) [e] [] pos) (tM1 (rJoin K') to te) (pJoin po pe) := by
  subst hK
  exact ⟨pe_join ho.p he.p hs hbase hline, fun W σ env H Q P hR hp k => by
  refine ho.s W σ env H _ _ hR hp fun x dx H1 g1 r1 q1 => ?_
  obtain ⟨a, rfl, q1⟩ := q1
  cases r1.dp
  refine ⟨⟨a, rfl⟩, he.s W σ env H1 _ _ (hR.go g1) q1 fun y dy H2 g2 r2 q2 => ?_⟩
  obtain ⟨ys, rfl | rfl, hz, q2⟩ := q2
  · obtain ⟨p, xs, rfl, e1, a1⟩ := dq_lst r2.dp
    rw [dqa_strs_inv a1] at e1
    exact ⟨a, p, ys, rfl, rfl, .inl (SqL.of (vw_sub _ _ e1)), hz, k _ _ H2 (g1.trans g2) (rdp (.str _)) q2⟩
  · obtain ⟨p, xs, rfl, e1, a1⟩ := dq_tup r2.dp
    rw [dqa_strs_inv a1] at e1
    exact ⟨a, p, ys, rfl, rfl, .inr (seqT_same vw_sub e1), hz, k _ _ H2 (g1.trans g2) (rdp (.str _)) q2⟩⟩
def SM1 (K : PySem.W.Frag) (r : V → List V → Hp → VK → Prop) (pr : P2) : Prop := ∀ m H x y dx dy (Q : VK) (P : D → Prop), Ok m H → RD K m H x dx → RD K m H y dy → pr dx dy P → (∀ v d H', Go m H H' → RD K m H' v d → P d → Q v H') → r x [y] H Q
def pM1 (pr : P2) (po pe : PTE) : PTE := fun env P => po env fun x => ∃ a : Str, x = .py (.str a) ∧ pe env fun y => pr x y P
theorem se_m1 {r : V → List V → Hp → VK → Prop} {pr : P2} (hs : SM1 b.K r pr) (ho : SE b to po) (he : SE b te pe) : SE b (tM1 r to te) (pM1 pr po pe) := fun W σ env H Q P hR hp k =>
  ho W σ env H _ _ hR hp fun x dx H1 g1 r1 q1 => by
    obtain ⟨a, rfl, q1⟩ := q1
    have r1' := r1.dp
    cases r1'
    refine ⟨⟨a, rfl⟩, he W σ env H1 _ _ (hR.go g1) q1 fun y dy H2 g2 r2 q2 => ?_⟩
    exact hs W.m H2 _ y _ dy Q _ g2.ok (rdp (.str a)) r2 q2 fun v d H' g r p => k v d H' ((g1.trans g2).trans g) r p
theorem qe_m1 {id : String} {name : Str} {r : V → List V → Hp → VK → Prop} {pr : P2} (slot : Slot "str" name id) (ty : typeOf (.builtin id) = pure (.type "method_descriptor")) (rule : MtR X id r) (hs : SM1 X.K r pr) (ho : QE X B m0 o to po) (he : QE X B m0 e te pe)
    (hst : starEach [e] X.env = [(false, eval e X.env)] := by rfl) (hbase : attributeBase o name X.env (eval o X.env) = eval o X.env := by rfl) (hline : (apos.endLine == pos.line) = true := by rfl) :
    QE X B m0 (.Call (.Attribute o name apos) [e] [] pos) (tM1 r to te) (pM1 pr po pe) := ⟨pe_m1 slot ty rule ho.p he.p hst hbase hline, se_m1 (b := bs X B m0) hs ho.s he.s⟩
def oSIdx : P2 := fun x y P => ∃ (a c : Str) (i : Nat) (rest : List Nat), x = .py (.str a) ∧ y = .py (.str c) ∧ Builtin.Str.occurrences a c 0 a.length 1 = i :: rest ∧ P (.py (.int i))
theorem sm_sidx {K : PySem.W.Frag} : SM1 K (fun x xs H Q => ∃ (a b : Str) (i : Nat) (rest : List Nat), x = V.str a ∧ xs = [V.str b] ∧ Builtin.Str.occurrences a b 0 a.length 1 = i :: rest ∧ Q (V.int i) H) oSIdx := fun m H x y dx dy Q P ho rx ry q k => by
  obtain ⟨a, c, i, rest, rfl, rfl, e, h⟩ := q
  cases rx.dp
  cases ry.dp
  exact ⟨a, c, i, rest, rfl, rfl, e, k _ _ _ (.refl ho) (rdp (.int _)) h⟩
end
theorem dqa_isEmpty {K : PySem.W.Frag} {H : Hp} {vs : List V} {ds : List PyData} (h : DqAll K H vs ds) : vs.isEmpty = ds.isEmpty := by
  cases h with
  | nil => rfl
  | cons _ _ => rfl
theorem qt_tru {K' : PySem.W.Frag} {X : Cx} {B : Hp} {m0 : Md} {e : Expr} {te : TE} {pe : PTE} (h : QE X B m0 e te pe) (he : ∀ whole, isTrue e X.env whole = (do let v ← whole; standAt e.pos; holding [v] (truthy v)) := by intro _; rfl) (hK : X.K = K' := by rfl) :
    QT X B m0 e (fun σ H Q => te σ H fun x H' => ∃ k, TruV K' x H' k ∧ Q k H') (pTru pe) := by
  subst hK
  exact ⟨pt_truth h.p he, fun W σ env H Q P hR hp k => by
  refine h.s W σ env H _ _ hR hp fun v d H1 g1 r1 q1 => ?_
  obtain ⟨ds, rfl | rfl, q⟩ := q1
  · obtain ⟨p1, vs, rfl, e1, a1⟩ := dq_lst r1.dp
    exact ⟨_, .inl ⟨vs, SqL.of (vw_sub _ _ e1), rfl⟩, k _ H1 g1 (by rw [dqa_isEmpty a1]; exact q)⟩
  · obtain ⟨p1, vs, rfl, e1, a1⟩ := dq_tup r1.dp
    exact ⟨_, .inr (.inl ⟨vs, seqT_same vw_sub e1, rfl⟩), k _ H1 g1 (by rw [dqa_isEmpty a1]; exact q)⟩⟩
theorem qf_callTy {X : Cx} {B : Hp} {m0 : Md} {e : Expr} {es : List Expr} {x : Str} {T : String} {p pos : Pos} {tA : TA} {pA : PTA} {r : List V → Hp → VK → Prop} {pr : PCL} (hc : CallR X (.type T) r) (hs : SCL X.K r pr) (hg : Gl X x) (hm : X.mg x = none) (hv : bootBuiltins x = some (.type T)) (ha : QA X B m0 (e :: es) tA pA) (hn : x ≠ "__name__" := by decide) (hdb : (x == ("__debug__" : Str)) = false := by decide)
    (hst : starEach (e :: es) X.env = (false, eval e X.env) :: starEach es X.env := by rfl) (hpl : (backTo pos (starEach es X.env)).any (·.1) = false := by rfl) : QF X B m0 (.Call (.Name x p) (e :: es) [] pos) (tCB r tA) (pCallL pr pA) :=
  ⟨pe_callTy hc hg hm hv ha.p hn hdb hst hpl, sf_call (b := bs X B m0) hs ha.s⟩
/-! ### records -/
section
variable {X : Cx} {B : Hp} {m0 : Md} {b : Bs} {o e : Expr} {to te : TE} {po pe : PTE} {apos pos : Pos}
def lkD (kvs : List (Key × PyData)) (k : Key) : Option PyData := (kvs.find? fun kv => decide (kv.1 = k)).map (·.2)
theorem kvd_lk {K : PySem.W.Frag} {H : Hp} {k : Key} {z : PyData} : ∀ {vs : List (Key × V)} {kvs : List (Key × PyData)}, KvD K H vs kvs → lkD kvs k = some z → ∃ v, valV vs k = some v ∧ Dq K H v z
  | _, _, .nil, e => by cases e
  | _, _, .cons (a := p) (b := q) h t, e => by
    unfold lkD at e
    unfold valV
    rw [List.find?_cons] at e
    rw [List.find?_cons]
    rw [h.1]
    cases c : decide (q.1 = k) with
    | true =>
      rw [c] at e
      cases e
      exact ⟨_, rfl, h.2⟩
    | false =>
      rw [c] at e
      exact kvd_lk t e
def pGet (po pe : PTE) : PTE := fun env P => po env fun x => ∃ kvs, x = .rcd kvs ∧ pe env fun y => ∃ (s : Str) (z : PyData), y = .py (.str s) ∧ lkD kvs (.inr s) = some z ∧ P (.py z)
theorem se_get (ho : SE b to po) (he : SE b te pe) : SE b (tDGet to te) (pGet po pe) := fun W σ env H Q P hR hp k =>
  ho W σ env H _ _ hR hp fun x dx H1 g1 r1 q1 => by
    obtain ⟨kvs, rfl, q1⟩ := q1
    obtain ⟨a, vs, rfl, ha, hk⟩ := r1
    refine he W σ env H1 _ _ (hR.go g1) q1 fun y dy H2 g2 r2 q2 => ?_
    obtain ⟨s, z, rfl, hz, q2⟩ := q2
    cases r2.dp
    obtain ⟨v, hv, dv⟩ := kvd_lk (hk.mv g2.vw) hz
    have ha2 := vw_sub _ _ (g2.vw _ _ ha)
    exact ⟨a, v, rfl, hv ▸ DGet.k (k := .inr s) ha2, k v _ H2 (g1.trans g2) (rdp dv) q2⟩
theorem qe_get (hu : X.A.units + 1 < cLine) (ho : QE X B m0 o to po) (he : QE X B m0 e te pe) (hs : NoSl e) : QE X B m0 (.Subscript o e pos) (tDGet to te) (pGet po pe) := ⟨pe_dget hu ho.p he.p hs, se_get ho.s he.s⟩
/-- {'a': x, ..} -/
def pPairs : List (Str × PTE) → PEnv → (List (Key × PyData) → Prop) → Prop
  | [], _, P => P []
  | (s, pe) :: r, env, P => pe env fun d => ∃ z, d = .py z ∧ pPairs r env fun kvs => P ((.inr s, z) :: kvs)
inductive SPs (b : Bs) : List (TE × TE) → List (Str × PTE) → Prop
  | nil : SPs b [] []
  | cons {s : Str} {te : TE} {pe : PTE} {r : List (TE × TE)} {pr : List (Str × PTE)} : SE b te pe → SPs b r pr → SPs b ((tC (.str s), te) :: r) ((s, pe) :: pr)
theorem sps_run : ∀ {trs : List (TE × TE)} {prs : List (Str × PTE)}, SPs b trs prs → ∀ W σ env H (RP : List (V × V) → Hp → Prop) (P : List (Key × PyData) → Prop), Rl b W σ env H → pPairs prs env P →
    (∀ vs kvs H', Go W.m H H' → KvD b.K (vw W.m H') vs kvs → kvs.map (·.1) = (prs.map (·.1)).map Sum.inr → P kvs → RP (vs.map fun kv => (kV kv.1, kv.2)) H') → tPairs trs σ H RP
  | _, _, .nil, W, σ, env, H, RP, P, hR, hp, k => k [] [] H (.refl hR.ok) .nil rfl hp
  | _, _, .cons (s := s) h t, W, σ, env, H, RP, P, hR, hp, k => by
    show tC (.str s) σ H _
    refine h W σ env H _ _ hR hp fun v d H1 g1 r1 q1 => ?_
    obtain ⟨z, rfl, q1⟩ := q1
    refine sps_run t W σ env H1 _ _ (hR.go g1) q1 fun vs kvs H2 g2 r2 ek q2 => ?_
    exact k ((.inr s, v) :: vs) ((.inr s, z) :: kvs) H2 (g1.trans g2) (.cons ⟨rfl, r1.dp.mv g2.vw⟩ r2) (by rw [List.map_cons, ek]; rfl) q2
def pRec (prs : List (Str × PTE)) : PTE := fun env P => (prs.map (·.1)).Nodup ∧ prs.length ≤ 15 ∧ pPairs prs env fun kvs => P (.rcd kvs)
theorem putK_new {kvs : List (Key × V)} {k : Key} {v : V} (h : k ∉ kvs.map (·.1)) : putK kvs k v = kvs ++ [(k, v)] := by
  unfold putK
  rw [if_neg]
  intro z
  obtain ⟨kv, h1, h2⟩ := List.any_eq_true.mp z
  exact h (List.mem_map.mpr ⟨kv, h1, of_decide_eq_true h2⟩)
theorem merge_nodup : ∀ (vs acc : List (Key × V)), ((acc ++ vs).map (·.1)).Nodup → mergeK acc vs = acc ++ vs
  | [], acc, _ => by rw [List.append_nil]; rfl
  | kv :: r, acc, h => by
    show mergeK (putK acc kv.1 kv.2) r = _
    have hn : kv.1 ∉ acc.map (·.1) := by
      rw [List.map_append, List.nodup_append] at h
      intro z
      exact h.2.2 _ z _ (by simp) rfl
    rw [putK_new hn, merge_nodup r (acc ++ [kv]) (by simpa using h)]
    simp
theorem kvd_len {K : PySem.W.Frag} {H : Hp} : ∀ {vs : List (Key × V)} {kvs : List (Key × PyData)}, KvD K H vs kvs → vs.length = kvs.length ∧ vs.map (·.1) = kvs.map (·.1)
  | _, _, .nil => ⟨rfl, rfl⟩
  | _, _, .cons h t => ⟨congrArg (· + 1) (kvd_len t).1, by rw [List.map_cons, List.map_cons, h.1, (kvd_len t).2]⟩
theorem se_rec {trs : List (TE × TE)} {prs : List (Str × PTE)} (h : SPs b trs prs) : SE b (tDisp trs) (pRec prs) := fun W σ env H Q P hR hp k => by
  obtain ⟨nd, hl, q⟩ := hp
  intro p hn
  have r0 : Rl b ⟨W.m.add p, W.ow⟩ σ env (upd H p (.dK [])) := hR.hide (.new hR.ok hn) hn (by rw [upd_same]; intro z; cases z)
  refine sps_run h ⟨W.m.add p, W.ow⟩ σ env _ _ _ r0 q fun vs kvs H2 g2 r2 ek q2 => ?_
  obtain ⟨hlen, hk⟩ := kvd_len r2
  have nd2 : (vs.map (·.1)).Nodup := by
    rw [hk, ek]
    exact List.Pairwise.map Sum.inr (fun a b h e => h (Sum.inr.inj e)) nd
  have lk : kvs.length = prs.length := by
    have := congrArg List.length ek
    simpa using this
  refine ⟨g2.at (hR.ok.off hn) upd_same, vs, rfl, by omega, ?_⟩
  rw [merge_nodup vs [] (by simpa using nd2), List.nil_append]
  have g0 : Go W.m H (upd H2 p (.dK vs)) := ((Go.new hR.ok hn).trans g2.sub).mut hR.ok hn
  refine k (.ref p) (.rcd kvs) _ g0 ⟨p, vs, rfl, ?_, ?_⟩ q2
  · rw [vw_get (hR.ok.nex hn) (hR.ok.off hn), upd_same]
  · have st : Same (vw (W.m.add p) H2) (vw W.m (upd H2 p (.dK vs))) := by
      rw [← vw_addupd (o := .dK vs)]
      exact vw_addsub
    exact r2.mv st
structure QPs (X : Cx) (B : Hp) (m0 : Md) (pos : Pos) (keys : List (Option Expr)) (values : List Expr) (trs : List (TE × TE)) (prs : List (Str × PTE)) : Prop where
  p : PPs X pos keys values trs
  s : SPs (bs X B m0) trs prs
theorem qps_nil : QPs X B m0 pos [] [] [] [] := ⟨pps_nil, .nil⟩
theorem qps_cons {keys : List (Option Expr)} {values : List Expr} {trs : List (TE × TE)} {prs : List (Str × PTE)} {s : Str} {j : Nat} {kpos : Pos} (h : QE X B m0 e te pe) (g : QPs X B m0 pos keys values trs prs) : QPs X B m0 pos (some (.Constant (.str s) j kpos) :: keys) (e :: values) ((tC (.str s), te) :: trs) ((s, pe) :: prs) := ⟨pps_cons pe_str h.p g.p, .cons h.s g.s⟩
theorem qe_rec {keys : List (Option Expr)} {values : List Expr} {trs : List (TE × TE)} {prs : List (Str × PTE)} (h : QPs X B m0 pos keys values trs prs) (hall : keys.all (·.isSome) = true := by rfl) (hl : keys.length = values.length := by rfl) (h0 : keys ≠ [] := by exact fun z => by cases z) (hlen : keys.length ≤ 15 := by decide) : QE X B m0 (.Dict keys values pos) (tDisp trs) (pRec prs) := ⟨pe_disp h.p hall hl h0 hlen, se_rec h.s⟩
end
/-! ### the deck's promises, without a heap -/
theorem FG.imp {P : Program} {w : World} {K : PySem.W.Frag} {mg : Str → Option Value} {base : Heap} {k : Nat} {f : Addr} {fd : FuncData} {ps : List Str} {sp sp' : Sp} (F : FG P w K mg base k f fd ps sp) (h : ∀ vs H Q E, sp' vs H Q E → sp vs H Q E) : FG P w K mg base k f fd ps sp' :=
  ⟨fun vs H Q E z => F.len vs H Q E (h _ _ _ _ z), fun A out s H args us vs Q E g r e b v z => F.run A out s H args us vs Q E g r e b v (h _ _ _ _ z)⟩
theorem FnAt.imp {P : Program} {w : World} {K : PySem.W.Frag} {mg : Str → Option Value} {base : Heap} {st : Stmt} {k : Nat} {x : Str} {ps : List Str} {sp sp' : Sp} (c : FnAt P w K mg base st k x ps sp) (h : ∀ vs H Q E, sp' vs H Q E → sp vs H Q E) : FnAt P w K mg base st k x ps sp' := by
  obtain ⟨f, fd, F, G, m, b⟩ := c.ex
  exact ⟨⟨f, fd, F, FG.imp G h, m, b⟩⟩
def psDraw : PSp := fun ds P _ => ∃ n : Int, ds = [.deck, .py (.int n)] ∧ n.natAbs.log2 < 9000 ∧ ∀ r, 0 ≤ r → (r < n ∨ r = 0) → P (.py (.int r))
def psPick : PSp := fun ds P _ => ∃ xs, ds = [.deck, .py (.list xs)] ∧ 0 < xs.length ∧ xs.length ≤ 1000 ∧ ∀ z ∈ xs, P (.py z)
theorem draw_of {K : PySem.W.Frag} {vs : List V} {H : Hp} {Q : VK} {E : XK} (h : spP K psDraw vs H Q E) : spDraw vs H Q E := by
  obtain ⟨m, ds, P, XX, ok, rd, ⟨n, rfl, hn, q⟩, hQ, _⟩ := h
  obtain ⟨v, w, rfl, r1, r2⟩ := rds2 rd
  obtain ⟨d, l, rfl, hd⟩ := r1
  cases r2.dp
  exact ⟨d, l, n, rfl, ok.dk d l hd, hn, fun r H' a h0 h1 => hQ _ _ H' (Go.adv hd ok a) (rdp (.int _)) (q r h0 h1)⟩
theorem pick_of {K : PySem.W.Frag} {vs : List V} {H : Hp} {Q : VK} {E : XK} (h : spP K psPick vs H Q E) : spPick K vs H Q E := by
  obtain ⟨m, ds, P, XX, ok, rd, ⟨xs, rfl, h1, h2, q⟩, hQ, _⟩ := h
  obtain ⟨v, w, rfl, r1, r2⟩ := rds2 rd
  obtain ⟨d, l, rfl, hd⟩ := r1
  obtain ⟨p, ys, rfl, e1, a1⟩ := dq_lst r2.dp
  refine ⟨d, l, p, ys, rfl, ok.dk d l hd, SqL.of (vw_hid hd _ _ e1), by rw [dqa_len a1]; exact h1, by rw [dqa_len a1]; exact h2, fun v H' a hv => ?_⟩
  obtain ⟨i, hi⟩ := List.getElem?_of_mem hv
  obtain ⟨z, hz, dz⟩ := dqa_get a1 hi
  have g := Go.adv hd ok a
  exact hQ v _ H' g (rdp (dz.mv g.vw)) (q z (List.mem_of_getElem? hz))
end VP

/-! VP7: steps through a reading without a heap -/
namespace VP
open PySem PySem.Spec PyProof.Rows L2 VB VZ VC RT
section
variable {env : PEnv} {P : D → Prop} {PB : Bool → Prop} {PL : List D → Prop} {PD : List PyData → Prop} {PO : Option Int → Prop} {Pn : PEn} {p q : PTS} {pe pa pb pc : PTE} {pt pu : PTT} {pA pK : PTA} {pf : PTL} {pr pr' : P2} {pl ph : PTO} {i j l : Nat} {d x y : D} {z : PyData} {k : Bool}
theorem w_seq (h : p { Pn with nx := q Pn } env) : pSeq p q Pn env := h
theorem w_next (h : Pn.nx env) : pNext Pn env := h
theorem w_set (h : pe env fun d => Pn.nx (env.set i d)) : pSet i pe Pn env := h
theorem w_setO (h : pf env fun ds => Pn.nx (env.set i (.own ds))) : pSetO i pf Pn env := h
def asgK (pg : PTG) (Pn : PEn) (env : PEnv) : D → Prop := fun d => ∃ p, d = .py p ∧ pg p env Pn.nx
theorem w_asg {pg : PTG} (h : pe env (asgK pg Pn env)) : pAsg pe pg Pn env := h
theorem w_asgk {pg : PTG} (h : pg z env Pn.nx) : asgK pg Pn env (.py z) := ⟨z, rfl, h⟩
def parK (i j : Nat) (Pn : PEn) (env : PEnv) : List D → Prop := fun ds => ∃ d e, ds = [d, e] ∧ Pn.nx ((env.set i d).set j e)
theorem w_par (h : pA env (parK i j Pn env)) : pPar i j pA Pn env := h
theorem w_park (h : Pn.nx ((env.set i x).set j y)) : parK i j Pn env [x, y] := ⟨x, y, rfl, h⟩
def parK3 (i j l : Nat) (Pn : PEn) (env : PEnv) : List D → Prop := fun ds => ∃ d e f, ds = [d, e, f] ∧ Pn.nx (((env.set i d).set j e).set l f)
theorem w_par3 (h : pA env (parK3 i j l Pn env)) : pPar3 i j l pA Pn env := h
theorem w_park3 {u : D} (h : Pn.nx (((env.set i x).set j y).set l u)) : parK3 i j l Pn env [x, y, u] := ⟨x, y, u, rfl, h⟩
theorem w_parOO {p1 p2 : PTL} (h : p1 env fun ds => p2 env fun es => Pn.nx ((env.set i (.own ds)).set j (.own es))) : pParOO i j p1 p2 Pn env := h
theorem w_parOX {p1 : PTL} (h : p1 env fun ds => pe env fun e => Pn.nx ((env.set i (.own ds)).set j e)) : pParOX i j p1 pe Pn env := h
theorem w_parXO {p2 : PTL} (h : pe env fun d => p2 env fun es => Pn.nx ((env.set i d).set j (.own es))) : pParXO i j pe p2 Pn env := h
def ifK (p q : PTS) (Pn : PEn) (env : PEnv) : Bool → Prop := fun k => if k = true then p Pn env else q Pn env
theorem w_if (h : pt env (ifK p q Pn env)) : pIf pt p q Pn env := h
theorem w_ifk (h1 : k = true → p Pn env) (h2 : k = false → q Pn env) : ifK p q Pn env k := by
  cases k with
  | true => exact h1 rfl
  | false => exact h2 rfl
theorem w_yes (e : k = true) (h : p Pn env) : ifK p q Pn env k := w_ifk (fun _ => h) fun z => by rw [e] at z; cases z
theorem w_no (e : k = false) (h : q Pn env) : ifK p q Pn env k := w_ifk (fun z => by rw [e] at z; cases z) fun _ => h
theorem w_ret (h : pe env Pn.rt) : pRet pe Pn env := h
theorem w_retN (h : Pn.rt (.py .none)) : pRetN Pn env := h
theorem w_drop (h : pe env fun _ => Pn.nx env) : pDrop pe Pn env := h
def forK (pg : PTG) (pb : PTS) (Pn : PEn) (env : PEnv) : List PyData → Prop := fun xs => forGo pg pb Pn xs env
theorem w_for {pi : PTL} {pg : PTG} (h : pi env (forK pg p Pn env)) : pFor pi pg p Pn env := h
theorem w_var (h : env[i]? = some d) (hk : d.ok = true) (q : P d) : pVar i env P := ⟨d, h, hk, q⟩
theorem w_c (h : P (.py z)) : pC z env P := h
theorem w_F (h : pf env fun ds => P (.py (.list ds))) : pF pf env P := h
theorem w_op (h : pa env fun x => pb env fun y => pr x y P) : pOp pr pa pb env P := h
theorem w_un {u : P1} (h : pa env fun x => u x P) : pUn u pa env P := h
theorem w_I0 {g : Int → Int → PyData} {a c : Int} (hx : x = .py (.int a)) (hy : y = .py (.int c)) (q : P (.py (g a c))) : oI0 g x y P := ⟨a, c, hx, hy, q⟩
theorem w_I {C : Int → Int → Prop} {g : Int → Int → PyData} {a c : Int} (hx : x = .py (.int a)) (hy : y = .py (.int c)) (hc : C a c) (q : P (.py (g a c))) : oI C g x y P := ⟨a, c, hx, hy, hc, q⟩
theorem w_pow {g : Int → Int → PyData} {a c : Int} (hx : x = .py (.int a)) (hy : y = .py (.int c)) (hc : (decide (0 ≤ c) && decide (c ≤ 1000000) && decide (a.natAbs < 2 ^ 64)) = true) (q : P (.py (g a c))) : oI CPow g x y P :=
  ⟨a, c, hx, hy, by simp only [Bool.and_eq_true, decide_eq_true_eq] at hc; exact ⟨hc.1.1, hc.1.2, hc.2⟩, q⟩
theorem w_neg {a : Int} (hx : x = .py (.int a)) (q : P (.py (.int (-a)))) : oNeg x P := ⟨a, hx, q⟩
theorem w_eq {u v : PyData} (hx : x = .py u) (hy : y = .py v) (hs : scD u v = true) (q : P (.py (.bool (sEq u v)))) : oEq x y P := ⟨u, v, hx, hy, hs, q⟩
theorem w_ne {u v : PyData} (hx : x = .py u) (hy : y = .py v) (hs : scD u v = true) (q : P (.py (.bool (!sEq u v)))) : oNe x y P := ⟨u, v, hx, hy, hs, q⟩
theorem w_isN {u : PyData} (hx : x = .py u) (hy : y = .py .none) (q : P (.py (.bool (isNoneD u)))) : oIsN x y P := ⟨u, hx, hy, q⟩
theorem w_notN {u : PyData} (hx : x = .py u) (hy : y = .py .none) (q : P (.py (.bool (!isNoneD u)))) : oNotN x y P := ⟨u, hx, hy, q⟩
theorem w_S {g : Str → Str → Bool} {a c : Str} (hx : x = .py (.str a)) (hy : y = .py (.str c)) (q : P (.py (.bool (g a c)))) : oS g x y P := ⟨a, c, hx, hy, q⟩
theorem w_catS {a c : Str} (hx : x = .py (.str a)) (hy : y = .py (.str c)) (hl : a.length + c.length ≤ sizeLine) (q : P (.py (.str (a ++ c)))) : oCatS x y P := ⟨a, c, hx, hy, hl, q⟩
theorem w_catL {a c : List PyData} (hx : x = .py (.list a)) (hy : y = .py (.list c)) (hl : a.length + c.length ≤ 1000) (q : P (.py (.list (a ++ c)))) : oCatL x y P := ⟨a, c, hx, hy, hl, q⟩
theorem w_catT {a c : List PyData} (hx : x = .py (.tuple a)) (hy : y = .py (.tuple c)) (hl : a.length + c.length ≤ 1000) (q : P (.py (.tuple (a ++ c)))) : oCatT x y P := ⟨a, c, hx, hy, hl, q⟩
theorem w_ixL {a : List PyData} {n : Int} (hx : x = .py (.list a)) (hy : y = .py (.int n)) (e : atI a n = some z) (q : P (.py z)) : oIxL x y P := ⟨a, n, z, hx, hy, e, q⟩
theorem w_ixT {a : List PyData} {n : Int} (hx : x = .py (.tuple a)) (hy : y = .py (.int n)) (e : atI a n = some z) (q : P (.py z)) : oIxT x y P := ⟨a, n, z, hx, hy, e, q⟩
theorem w_ixS {a : Str} {n : Int} {c : Nat} (hx : x = .py (.str a)) (hy : y = .py (.int n)) (hl : a.length ≤ sizeLine) (e : atI a.cps.toList n = some c) (q : P (.py (.str ⟨#[c]⟩))) : oIxS x y P := ⟨a, n, c, hx, hy, hl, e, q⟩
def tstK (P : Bool → Prop) : D → Prop := fun d => ∃ k, d = .py (.bool k) ∧ P k
theorem w_test (h : pe env (tstK PB)) : pTest pe env PB := h
theorem w_B (h : pe env (tstK PB)) : pB pe env PB := h
theorem w_bl (h : PB k) : tstK PB (.py (.bool k)) := ⟨k, rfl, h⟩
def chnK (pr' : P2) (pc : PTE) (env : PEnv) (y : D) (P : D → Prop) : D → Prop := fun z => ∃ k, z = .py (.bool k) ∧ if k = true then pc env fun w => pr' y w P else P (.py (.bool false))
theorem w_chain (h : pa env fun x => pb env fun y => pr x y (chnK pr' pc env y P)) : pChain pr pr' pa pb pc env P := h
theorem w_chnk (h1 : k = true → pc env fun w => pr' y w P) (h2 : k = false → P (.py (.bool false))) : chnK pr' pc env y P (.py (.bool k)) := ⟨k, rfl, by
  cases k with
  | true => exact h1 rfl
  | false => exact h2 rfl⟩
def andK (pu : PTT) (env : PEnv) (P : Bool → Prop) : Bool → Prop := fun k => if k = true then pu env P else P false
def orK (pu : PTT) (env : PEnv) (P : Bool → Prop) : Bool → Prop := fun k => if k = true then P true else pu env P
theorem w_and (h : pt env (andK pu env PB)) : pAndT pt pu env PB := h
theorem w_or (h : pt env (orK pu env PB)) : pOrT pt pu env PB := h
theorem w_andk (h1 : k = true → pu env PB) (h2 : k = false → PB false) : andK pu env PB k := by
  cases k with
  | true => exact h1 rfl
  | false => exact h2 rfl
theorem w_ork (h1 : k = true → PB true) (h2 : k = false → pu env PB) : orK pu env PB k := by
  cases k with
  | true => exact h1 rfl
  | false => exact h2 rfl
theorem w_not (h : pt env fun k => PB (!k)) : pNotT pt env PB := h
def andVK (pb : PTE) (env : PEnv) (P : D → Prop) : D → Prop := fun d => ∃ k, d = .py (.bool k) ∧ if k = true then pb env P else P (.py (.bool false))
def orVK (pb : PTE) (env : PEnv) (P : D → Prop) : D → Prop := fun d => ∃ k, d = .py (.bool k) ∧ if k = true then P (.py (.bool true)) else pb env P
theorem w_andV (h : pa env (andVK pb env P)) : pAndV pa pb env P := h
theorem w_orV (h : pa env (orVK pb env P)) : pOrV pa pb env P := h
theorem w_andVk (h1 : k = true → pb env P) (h2 : k = false → P (.py (.bool false))) : andVK pb env P (.py (.bool k)) := ⟨k, rfl, by
  cases k with
  | true => exact h1 rfl
  | false => exact h2 rfl⟩
theorem w_orVk (h1 : k = true → P (.py (.bool true))) (h2 : k = false → pb env P) : orVK pb env P (.py (.bool k)) := ⟨k, rfl, by
  cases k with
  | true => exact h1 rfl
  | false => exact h2 rfl⟩
def ifEK (pa pb : PTE) (env : PEnv) (P : D → Prop) : Bool → Prop := fun k => if k = true then pa env P else pb env P
theorem w_ifE (h : pt env (ifEK pa pb env P)) : pIfE pt pa pb env P := h
theorem w_ifEk (h1 : k = true → pa env P) (h2 : k = false → pb env P) : ifEK pa pb env P k := by
  cases k with
  | true => exact h1 rfl
  | false => exact h2 rfl
theorem w_nil (h : PL []) : pNil env PL := h
theorem w_cons (h : pe env fun d => pA env fun ds => PL (d :: ds)) : pCons pe pA env PL := h
def tupK (P : D → Prop) : List D → Prop := fun ds => ∃ ps, datas ds = some ps ∧ ps.length ≤ 1000 ∧ P (.py (.tuple ps))
def lstK (P : List PyData → Prop) : List D → Prop := fun ds => ∃ ps, datas ds = some ps ∧ ps.length ≤ 1000 ∧ P ps
theorem w_tup (h : pA env (tupK P)) : pTup pA env P := h
theorem w_lst (h : pA env (lstK PD)) : pLst pA env PD := h
inductive Dts : List D → List PyData → Prop
  | nil : Dts [] []
  | cons {p : PyData} {ds : List D} {ps : List PyData} : Dts ds ps → Dts (.py p :: ds) (p :: ps)
theorem Dts.datas : ∀ {ds : List D} {ps : List PyData}, Dts ds ps → datas ds = some ps
  | _, _, .nil => rfl
  | _, _, .cons (p := p) (ds := ds) h => by
    show (VP.datas ds).map (p :: ·) = _
    rw [Dts.datas h]
    rfl
theorem w_tupD {ds : List D} {ps : List PyData} (e : Dts ds ps) (hl : Nat.ble ps.length 1000 = true) (h : P (.py (.tuple ps))) : tupK P ds := ⟨ps, e.datas, Nat.le_of_ble_eq_true hl, h⟩
theorem w_lstD {ds : List D} {ps : List PyData} (e : Dts ds ps) (hl : Nat.ble ps.length 1000 = true) (h : PD ps) : lstK PD ds := ⟨ps, e.datas, Nat.le_of_ble_eq_true hl, h⟩
theorem w_tupk {ds : List D} {ps : List PyData} (e : datas ds = some ps) (hl : ps.length ≤ 1000) (h : P (.py (.tuple ps))) : tupK P ds := ⟨ps, e, hl, h⟩
theorem w_lstk {ds : List D} {ps : List PyData} (e : datas ds = some ps) (hl : ps.length ≤ 1000) (h : PD ps) : lstK PD ds := ⟨ps, e, hl, h⟩
theorem w_none (h : PO none) : pNone env PO := h
def smK (P : Option Int → Prop) : D → Prop := fun d => ∃ i, d = .py (.int i) ∧ P (some i)
theorem w_some (h : pe env (smK PO)) : pSome pe env PO := h
theorem w_smk {a : Int} (h : PO (some a)) : smK PO (.py (.int a)) := ⟨a, rfl, h⟩
theorem w_slice {ps : PS3} (h : pe env fun d => pl env fun lo => ph env fun hi => ps d lo hi P) : pSlice ps pe pl ph env P := h
theorem w_slL {a : List PyData} {lo hi : Option Int} (hx : x = .py (.list a)) (q : P (.py (.list (cutD a lo hi)))) : oSlL x lo hi P := ⟨a, hx, q⟩
theorem w_slT {a : List PyData} {lo hi : Option Int} (hx : x = .py (.tuple a)) (q : P (.py (.tuple (cutD a lo hi)))) : oSlT x lo hi P := ⟨a, hx, q⟩
theorem w_call {pr : PC} (h : pA env fun ds => pr ds P) : pCall pr pA env P := h
theorem w_callL {pr : PCL} (h : pA env fun ds => pr ds PD) : pCallL pr pA env PD := h
theorem w_lenL {a : List PyData} (hx : x = .py (.list a)) (q : P (.py (.int a.length))) : oLen [x] P := ⟨a, .inl (by rw [hx]), q⟩
theorem w_lenT {a : List PyData} (hx : x = .py (.tuple a)) (q : P (.py (.int a.length))) : oLen [x] P := ⟨a, .inr (by rw [hx]), q⟩
theorem w_lenS {a : Str} (hx : x = .py (.str a)) (hl : a.length ≤ sizeLine) (q : P (.py (.int a.length))) : oLenS [x] P := ⟨a, by rw [hx], hl, q⟩
theorem w_abs {a : Int} (hx : x = .py (.int a)) (q : P (.py (.int (if a < 0 then -a else a)))) : oAbs [x] P := ⟨a, by rw [hx], q⟩
theorem w_int {u : PyData} {a : Int} (hx : x = .py u) (e : intOf u = some a) (q : P (.py (.int a))) : oInt [x] P := ⟨u, a, by rw [hx], e, q⟩
theorem w_tupL {a : List PyData} (hx : x = .py (.list a)) (q : P (.py (.tuple a))) : oTupOf [x] P := ⟨a, .inl (by rw [hx]), q⟩
theorem w_tupT {a : List PyData} (hx : x = .py (.tuple a)) (q : P (.py (.tuple a))) : oTupOf [x] P := ⟨a, .inr (by rw [hx]), q⟩
theorem w_lstL {a : List PyData} (hx : x = .py (.list a)) (q : PD a) : oListOf [x] PD := ⟨a, .inl (by rw [hx]), q⟩
theorem w_lstT {a : List PyData} (hx : x = .py (.tuple a)) (q : PD a) : oListOf [x] PD := ⟨a, .inr (by rw [hx]), q⟩
theorem w_sumL {ns : List Int} (hx : x = .py (.list (ns.map .int))) (q : P (.py (.int ns.sum))) : oSum [x] P := ⟨ns, .inl (by rw [hx]), q⟩
theorem w_sumT {ns : List Int} (hx : x = .py (.tuple (ns.map .int))) (q : P (.py (.int ns.sum))) : oSum [x] P := ⟨ns, .inr (by rw [hx]), q⟩
theorem w_all {bs : List Bool} (hx : x = .py (.list (bs.map .bool))) (q : P (.py (.bool (bs.all id)))) : oAll [x] P := ⟨bs, by rw [hx], q⟩
theorem w_any {bs : List Bool} (hx : x = .py (.list (bs.map .bool))) (q : P (.py (.bool (bs.any id)))) : oAny [x] P := ⟨bs, by rw [hx], q⟩
theorem w_gcd {a c : Int} (hx : x = .py (.int a)) (hy : y = .py (.int c)) (q : P (.py (.int (gcdI a c)))) : oGcd [x, y] P := ⟨a, c, by rw [hx, hy], q⟩
theorem w_lcm {a c : Int} (hx : x = .py (.int a)) (hy : y = .py (.int c)) (h1 : a.natAbs < 2 ^ 64) (h2 : c.natAbs < 2 ^ 64) (q : P (.py (.int (lcmI a c)))) : oLcm [x, y] P := ⟨a, c, by rw [hx, hy], h1, h2, q⟩
theorem w_range {n : Int} (hx : x = .py (.int n)) (q : P (.rng n)) : oRange [x] P := ⟨n, by rw [hx], q⟩
theorem w_repr {u : PyData} (hx : x = .py u) (h1 : u.showable = true) (h2 : u.shown.length ≤ sizeLine) (h3 : u.depth < 60) (q : P (.py (.str u.shown))) : oRepr [x] P := ⟨u, by rw [hx], showB_of h1, h2, h3, q⟩
/-- a text that repr made, by a name -/
theorem w_reprS {u : PyData} {S : Str} (e : S = u.shown) (hx : x = .py u) (h1 : u.showable = true) (h2 : u.shown.length ≤ sizeLine) (h3 : u.depth < 60) (q : P (.py (.str S))) : oRepr [x] P := ⟨u, by rw [hx], showB_of h1, h2, h3, e ▸ q⟩
theorem w_fn {ps : PSp} {XE : PEnv → Ex → Prop} (h : pA env fun ds => ps ds P (XE env)) : pFn ps XE pA env P := h
theorem w_fnK {ps : PSp} {gD : List D → List D → List D} {XE : PEnv → Ex → Prop} (h : pA env fun ds => pK env fun es => ps (gD ds es) P (XE env)) : pFnK ps gD XE pA pK env P := h
/-! walks -/
def iLK (P : List PyData → Prop) : D → Prop := fun d => ∃ a, d = .py (.list a) ∧ P a
def iTK (P : List PyData → Prop) : D → Prop := fun d => ∃ a, d = .py (.tuple a) ∧ P a
def iSK (P : List PyData → Prop) : D → Prop := fun d => ∃ a : Str, d = .py (.str a) ∧ P (sgsD a)
def iRK (P : List PyData → Prop) : List D → Prop := fun ds => ∃ n : Int, ds = [.py (.int n)] ∧ -1000000 ≤ n ∧ n ≤ 1000000 ∧ P (rngD 0 n.toNat)
def iR2K (P : List PyData → Prop) : List D → Prop := fun ds => ∃ k n : Int, ds = [.py (.int k), .py (.int n)] ∧ (-1000000 ≤ k ∧ k ≤ 1000000 ∧ -1000000 ≤ n ∧ n ≤ 1000000) ∧ P (rngD k (n - k).toNat)
def iRVK (P : List PyData → Prop) : D → Prop := fun d => ∃ n : Int, d = .rng n ∧ -1000000 ≤ n ∧ n ≤ 1000000 ∧ P (rngD 0 n.toNat)
def iZK (P : List PyData → Prop) : List D → Prop := fun ds => ∃ d1 d2 xs ys, ds = [d1, d2] ∧ srcD d1 = some xs ∧ srcD d2 = some ys ∧ P (pairsD xs ys)
def iNK (P : List PyData → Prop) : List D → Prop := fun ds => ∃ d1 xs, ds = [d1] ∧ srcD d1 = some xs ∧ P (numD xs)
def iVK (P : List PyData → Prop) : D → Prop := fun d => ∃ a, (d = .py (.list a) ∨ d = .py (.tuple a)) ∧ P a.reverse
theorem w_iL (h : pe env (iLK PD)) : piL pe env PD := h
theorem w_iT (h : pe env (iTK PD)) : piT pe env PD := h
theorem w_iS (h : pe env (iSK PD)) : piS pe env PD := h
theorem w_iR (h : pA env (iRK PD)) : piR1 pA env PD := h
theorem w_iR2 (h : pA env (iR2K PD)) : piR2 pA env PD := h
theorem w_iRV (h : pe env (iRVK PD)) : piRV pe env PD := h
theorem w_iZ (h : pA env (iZK PD)) : piZ pA env PD := h
theorem w_iN (h : pA env (iNK PD)) : piN pA env PD := h
theorem w_iV (h : pe env (iVK PD)) : piV pe env PD := h
theorem w_iLk {a : List PyData} (hx : x = .py (.list a)) (h : PD a) : iLK PD x := ⟨a, hx, h⟩
theorem w_iTk {a : List PyData} (hx : x = .py (.tuple a)) (h : PD a) : iTK PD x := ⟨a, hx, h⟩
theorem w_iSk {a : Str} (hx : x = .py (.str a)) (h : PD (sgsD a)) : iSK PD x := ⟨a, hx, h⟩
theorem w_iRk {n : Int} (hx : x = .py (.int n)) (h1 : -1000000 ≤ n) (h2 : n ≤ 1000000) (h : PD (rngD 0 n.toNat)) : iRK PD [x] := ⟨n, by rw [hx], h1, h2, h⟩
theorem w_iRVk {n : Int} (hx : x = .rng n) (h1 : -1000000 ≤ n) (h2 : n ≤ 1000000) (h : PD (rngD 0 n.toNat)) : iRVK PD x := ⟨n, hx, h1, h2, h⟩
theorem w_iZk {u v : List PyData} (hx : srcD x = some u) (hy : srcD y = some v) (h : PD (pairsD u v)) : iZK PD [x, y] := ⟨x, y, u, v, rfl, hx, hy, h⟩
theorem w_iNk {u : List PyData} (hx : srcD x = some u) (h : PD (numD u)) : iNK PD [x] := ⟨x, u, rfl, hx, h⟩
theorem w_iVkL {a : List PyData} (hx : x = .py (.list a)) (h : PD a.reverse) : iVK PD x := ⟨a, .inl hx, h⟩
theorem w_iVkT {a : List PyData} (hx : x = .py (.tuple a)) (h : PD a.reverse) : iVK PD x := ⟨a, .inr hx, h⟩
/-! targets -/
theorem w_gName {Q : PEnv → Prop} (h : Q (env.set i (.py z))) : pgName i z env Q := h
theorem w_gTup {n : Nat} {pgs : PTGs} {ds : List PyData} {Q : PEnv → Prop} (hx : z = .tuple ds) (hl : ds.length = n) (h : pgs ds env Q) : pgTup n pgs z env Q := ⟨ds, hx, hl, h⟩
theorem w_gNil {Q : PEnv → Prop} (h : Q env) : pgNil [] env Q := ⟨rfl, h⟩
theorem w_gCons {pg : PTG} {pgs : PTGs} {r : List PyData} {Q : PEnv → Prop} (h : pg z env fun env1 => pgs r env1 Q) : pgCons pg pgs (z :: r) env Q := ⟨z, r, rfl, h⟩
/-! own -/
theorem w_fz {ds : List PyData} (e : env[i]? = some (.own ds)) (h : p Pn (env.set i (.py (.list ds)))) : pFz i p Pn env := ⟨ds, e, h⟩
def flK (P : D → Prop) : D → Prop := fun d => flatD d = true ∧ P d
theorem w_lend {ds : List PyData} (e : env[i]? = some (.own ds)) (h : pe (env.set i (.py (.list ds))) (flK P)) : pLend i pe env P := ⟨ds, e, h⟩
theorem w_flk (e : flatD d = true) (h : P d) : flK P d := ⟨e, h⟩
theorem w_lendT {ds : List PyData} (e : env[i]? = some (.own ds)) (h : pt (env.set i (.py (.list ds))) PB) : pLendT i pt env PB := ⟨ds, e, h⟩
def oixK (ds : List PyData) (P : D → Prop) : D → Prop := fun d => ∃ n z, d = .py (.int n) ∧ atI ds n = some z ∧ P (.py z)
theorem w_ownIx {ds : List PyData} (e : env[i]? = some (.own ds)) (h : pe env (oixK ds P)) : pOwnIx i pe env P := ⟨ds, e, h⟩
theorem w_oixk {ds : List PyData} {n : Int} (e : atI ds n = some z) (h : P (.py z)) : oixK ds P (.py (.int n)) := ⟨n, z, rfl, e, h⟩
def appK (i : Nat) (ds : List PyData) (Pn : PEn) (env : PEnv) : D → Prop := fun d => ∃ p, d = .py p ∧ Pn.nx (env.set i (.own (ds ++ [p])))
theorem w_app {ds : List PyData} (e : env[i]? = some (.own ds)) (hl : ds.length ≤ 1000) (h : pe env (appK i ds Pn env)) : pApp i pe Pn env := ⟨ds, e, hl, h⟩
theorem w_appk {ds : List PyData} (h : Pn.nx (env.set i (.own (ds ++ [z])))) : appK i ds Pn env (.py z) := ⟨z, rfl, h⟩
theorem w_ext {ds : List PyData} (e : env[i]? = some (.own ds)) (h : pf env fun es => ds.length + es.length ≤ 1000 ∧ Pn.nx (env.set i (.own (ds ++ es)))) : pExt i pf Pn env := ⟨ds, e, h⟩
def sixK (i : Nat) (ds : List PyData) (pj : PTE) (Pn : PEn) (env : PEnv) : D → Prop := fun d => ∃ p, d = .py p ∧ pj env fun d2 => ∃ (n : Int) (j : Nat), d2 = .py (.int n) ∧ ixN ds.length n = some j ∧ Pn.nx (env.set i (.own (ds.set j p)))
theorem w_setIx {ds : List PyData} (e : env[i]? = some (.own ds)) (h : pe env (sixK i ds pb Pn env)) : pSetIx i pe pb Pn env := ⟨ds, e, h⟩
def sixK2 (i : Nat) (ds : List PyData) (p : PyData) (Pn : PEn) (env : PEnv) : D → Prop := fun d2 => ∃ (n : Int) (j : Nat), d2 = .py (.int n) ∧ ixN ds.length n = some j ∧ Pn.nx (env.set i (.own (ds.set j p)))
theorem w_sixk {ds : List PyData} (h : pb env (sixK2 i ds z Pn env)) : sixK i ds pb Pn env (.py z) := ⟨z, rfl, h⟩
theorem w_sixk2 {ds : List PyData} {n : Int} {j : Nat} (e : ixN ds.length n = some j) (h : Pn.nx (env.set i (.own (ds.set j z)))) : sixK2 i ds z Pn env (.py (.int n)) := ⟨n, j, rfl, e, h⟩
def apK (i j : Nat) (ds ls : List PyData) (Pn : PEn) (env : PEnv) : D → Prop := fun d => ∃ (k : Nat) (z : PyData), d = .py (.int k) ∧ ls[k]? = some z ∧ Pn.nx ((env.set j (.own (ls.eraseIdx k))).set i (.own (ds ++ [z])))
theorem w_appPop {ds ls : List PyData} (e : env[i]? = some (.own ds)) (e2 : env[j]? = some (.own ls)) (h1 : ds.length ≤ 1000) (h2 : ls.length ≤ 1000) (h : pe env (apK i j ds ls Pn env)) : pAppPop i j pe Pn env := ⟨ds, ls, e, e2, h1, h2, h⟩
theorem w_apk {ds ls : List PyData} {k : Nat} (e : ls[k]? = some z) (h : Pn.nx ((env.set j (.own (ls.eraseIdx k))).set i (.own (ds ++ [z])))) : apK i j ds ls Pn env (.py (.int k)) := ⟨k, z, rfl, e, h⟩
def jnK (pe : PTE) (env : PEnv) (P : D → Prop) : D → Prop := fun x => ∃ a : Str, x = .py (.str a) ∧ pe env fun d => ∃ ys : List Str, (d = .py (.list (ys.map .str)) ∨ d = .py (.tuple (ys.map .str))) ∧ (ys.map fun x => x.length).sum + ys.length * a.length ≤ 16777216 ∧ P (.py (.str (Txt.join a ys)))
def jnK2 (a : Str) (P : D → Prop) : D → Prop := fun d => ∃ ys : List Str, (d = .py (.list (ys.map .str)) ∨ d = .py (.tuple (ys.map .str))) ∧ (ys.map fun x => x.length).sum + ys.length * a.length ≤ 16777216 ∧ P (.py (.str (Txt.join a ys)))
theorem w_join (h : pa env (jnK pb env P)) : pJoin pa pb env P := h
theorem w_jnk {a : Str} (h : pb env (jnK2 a P)) : jnK pb env P (.py (.str a)) := ⟨a, rfl, h⟩
theorem w_jnk2 {a : Str} {ys : List Str} (hx : x = .py (.list (ys.map .str))) (hl : (ys.map fun x => x.length).sum + ys.length * a.length ≤ 16777216) (h : P (.py (.str (Txt.join a ys)))) : jnK2 a P x := ⟨ys, .inl hx, hl, h⟩
def m1K (pr : P2) (pe : PTE) (env : PEnv) (P : D → Prop) : D → Prop := fun x => ∃ a : Str, x = .py (.str a) ∧ pe env fun y => pr x y P
theorem w_m1 (h : pa env (m1K pr pb env P)) : pM1 pr pa pb env P := h
theorem w_m1k {a : Str} (h : pb env fun y => pr (.py (.str a)) y P) : m1K pr pb env P (.py (.str a)) := ⟨a, rfl, h⟩
theorem w_sidx {a c : Str} {n : Nat} {rest : List Nat} (hx : x = .py (.str a)) (hy : y = .py (.str c)) (e : Builtin.Str.occurrences a c 0 a.length 1 = n :: rest) (q : P (.py (.int n))) : oSIdx x y P := ⟨a, c, n, rest, hx, hy, e, q⟩
def getK (pe : PTE) (env : PEnv) (P : D → Prop) : D → Prop := fun x => ∃ kvs, x = .rcd kvs ∧ pe env fun y => ∃ (s : Str) (z : PyData), y = .py (.str s) ∧ lkD kvs (.inr s) = some z ∧ P (.py z)
def getK2 (kvs : List (Key × PyData)) (P : D → Prop) : D → Prop := fun y => ∃ (s : Str) (z : PyData), y = .py (.str s) ∧ lkD kvs (.inr s) = some z ∧ P (.py z)
theorem w_get (h : pa env (getK pb env P)) : pGet pa pb env P := h
theorem w_getk {kvs : List (Key × PyData)} (h : pb env (getK2 kvs P)) : getK pb env P (.rcd kvs) := ⟨kvs, rfl, h⟩
theorem w_getk2 {kvs : List (Key × PyData)} {s : Str} (e : lkD kvs (.inr s) = some z) (h : P (.py z)) : getK2 kvs P (.py (.str s)) := ⟨s, z, rfl, e, h⟩
theorem w_rec {prs : List (Str × PTE)} {P : D → Prop} (h1 : (prs.map (·.1)).Nodup) (h2 : prs.length ≤ 15) (h : pPairs prs env fun kvs => P (.rcd kvs)) : pRec prs env P := ⟨h1, h2, h⟩
def prK (s : Str) (r : List (Str × PTE)) (env : PEnv) (P : List (Key × PyData) → Prop) : D → Prop := fun d => ∃ z, d = .py z ∧ pPairs r env fun kvs => P ((.inr s, z) :: kvs)
theorem w_prn {P : List (Key × PyData) → Prop} (h : P []) : pPairs [] env P := h
theorem w_prc {s : Str} {r : List (Str × PTE)} {P : List (Key × PyData) → Prop} (h : pe env (prK s r env P)) : pPairs ((s, pe) :: r) env P := h
theorem w_prk {s : Str} {r : List (Str × PTE)} {P : List (Key × PyData) → Prop} (h : pPairs r env fun kvs => P ((.inr s, z) :: kvs)) : prK s r env P (.py z) := ⟨z, rfl, h⟩
def lcK (vs : List Nat) (pg : PTG) (pt : PTT) (pe : PTE) (env : PEnv) (P : List PyData → Prop) : List PyData → Prop := fun xs => xs.length ≤ 1000 ∧ lcGo vs pg pt pe env xs P
theorem w_lc {pi : PTL} {vs : List Nat} {pg : PTG} (h : pi env (lcK vs pg pt pe env PD)) : pLc pi vs pg pt pe env PD := h
def lcIf (pe : PTE) (env : PEnv) (Q : D → Prop) (T : Prop) : Bool → Prop := fun k => if k = true then pe env Q else T
theorem w_lcT {Q : D → Prop} {T : Prop} (h : pe env Q) : lcIf pe env Q T true := h
theorem w_lcif {Q : D → Prop} {T : Prop} (h1 : k = true → pe env Q) (h2 : k = false → T) : lcIf pe env Q T k := by
  cases k with
  | true => exact h1 rfl
  | false => exact h2 rfl
theorem w_yesT (h : PB true) : pYes env PB := h
inductive All2 {α β : Type} (R : α → β → Prop) : List α → List β → Prop
  | nil : All2 R [] []
  | cons {a : α} {b : β} {as : List α} {bs : List β} : R a b → All2 R as bs → All2 R (a :: as) (b :: bs)
/-- each item by itself -/
theorem lc_rel {α : Type} {vs : List Nat} {pg : PTG} (as : List α) (g : α → PyData) (R : α → PyData → Prop) (hl : as.length ≤ 1000) (h : ∀ a ∈ as, ∀ (Q : D → Prop) (T : Prop), (∀ p, R a p → Q (.py p)) → pg (g a) (wipeE env vs) fun env2 => pt env2 (lcIf pe env2 Q T))
    (hP : ∀ ds, All2 R as ds → PD ds) : lcK vs pg pt pe env PD (as.map g) := by
  refine ⟨by simpa using hl, ?_⟩
  clear hl
  induction as generalizing PD with
  | nil => exact hP [] .nil
  | cons a r ih =>
    refine h a (by simp) (fun d => ∃ p, d = .py p ∧ lcGo vs pg pt pe env (r.map g) fun ds => PD (p :: ds)) _ fun p hp => ⟨p, rfl, ?_⟩
    exact ih (fun b hb => h b (by simp [hb])) fun ds hd => hP _ (.cons hp hd)
theorem lc_fun {α : Type} {vs : List Nat} {pg : PTG} (as : List α) (g f : α → PyData) (hl : as.length ≤ 1000) (h : ∀ a ∈ as, ∀ (Q : D → Prop) (T : Prop), Q (.py (f a)) → pg (g a) (wipeE env vs) fun env2 => pt env2 (lcIf pe env2 Q T))
    (hP : PD (as.map f)) : lcK vs pg pt pe env PD (as.map g) := by
  refine lc_rel as g (fun a p => p = f a) hl (fun a ha Q T hq => h a ha Q T (hq _ rfl)) fun ds hd => ?_
  have : ds = as.map f := by
    clear hP hl h
    induction hd with
    | nil => rfl
    | cons h1 _ ih => rw [h1, ih]; rfl
  rw [this]
  exact hP
theorem lc_filt {α : Type} {vs : List Nat} {pg : PTG} (as : List α) (g : α → PyData) (f : α → Option PyData) (hl : as.length ≤ 1000) (h : ∀ a ∈ as, ∀ (Q : D → Prop) (T : Prop), (∀ p, f a = some p → Q (.py p)) → (f a = none → T) → pg (g a) (wipeE env vs) fun env2 => pt env2 (lcIf pe env2 Q T))
    (hP : PD (as.filterMap f)) : lcK vs pg pt pe env PD (as.map g) := by
  refine ⟨by simpa using hl, ?_⟩
  clear hl
  induction as generalizing PD with
  | nil => exact hP
  | cons a r ih =>
    refine h a (by simp) (fun d => ∃ p, d = .py p ∧ lcGo vs pg pt pe env (r.map g) fun ds => PD (p :: ds)) _ (fun p hp => ⟨p, rfl, ?_⟩) fun hn => ?_
    · refine ih (fun b hb => h b (by simp [hb])) ?_
      rw [List.filterMap_cons, hp] at hP
      exact hP
    · refine ih (fun b hb => h b (by simp [hb])) ?_
      rw [List.filterMap_cons, hn] at hP
      exact hP
/-- by an invariant of the turn -/
theorem for_inv {α : Type} {pg : PTG} (as : List α) (g : α → PyData) (I : Nat → PEnv → Prop) (h0 : I 0 env) (hs : ∀ i a env, as[i]? = some a → I i env → ∀ Nn : PEnv → Prop, (∀ e, I (i + 1) e → Nn e) → pg (g a) env fun env2 => p { Pn with nx := Nn, ct := Nn, bk := Pn.nx } env2)
    (hd : ∀ env, I as.length env → Pn.nx env) : forK pg p Pn env (as.map g) := by
  have key : ∀ (n : Nat) (env : PEnv), n ≤ as.length → I n env → forGo pg p Pn ((as.drop n).map g) env := by
    intro n
    induction hm : as.length - n generalizing n with
    | zero =>
      intro env hn hi
      have e : n = as.length := by omega
      subst e
      rw [List.drop_length]
      exact hd env hi
    | succ k ih =>
      intro env hn hi
      have hlt : n < as.length := by omega
      rw [List.drop_eq_getElem_cons hlt, List.map_cons]
      exact hs n _ env (List.getElem?_eq_getElem hlt) hi _ fun e he => ih (n + 1) (by omega) e hlt he
  have := key 0 env (Nat.zero_le _) h0
  rwa [List.drop_zero] at this
def whK (p : PTS) (Pn : PEn) (I : Nat → PEnv → Prop) (n : Nat) (env : PEnv) : Bool → Prop := fun k => if k = true then p { Pn with nx := fun e => ∃ n', n' < n ∧ I n' e, ct := fun e => ∃ n', n' < n ∧ I n' e, bk := Pn.nx } env else Pn.nx env
theorem w_while (I : Nat → PEnv → Prop) (n : Nat) (h0 : I n env) (hs : ∀ n env, I n env → pt env (whK p Pn I n env)) : pWhile pt p Pn env := ⟨I, ⟨n, h0⟩, hs⟩
theorem w_whk {I : Nat → PEnv → Prop} {n : Nat} (h1 : k = true → p { Pn with nx := fun e => ∃ n', n' < n ∧ I n' e, ct := fun e => ∃ n', n' < n ∧ I n' e, bk := Pn.nx } env) (h2 : k = false → Pn.nx env) : whK p Pn I n env k := by
  cases k with
  | true => exact h1 rfl
  | false => exact h2 rfl
def truK (P : Bool → Prop) : D → Prop := fun d => ∃ ds, (d = .py (.list ds) ∨ d = .py (.tuple ds)) ∧ P (!ds.isEmpty)
theorem w_tru (h : pe env (truK PB)) : pTru pe env PB := h
theorem w_truL {ds : List PyData} (hx : x = .py (.list ds)) (h : PB (!ds.isEmpty)) : truK PB x := ⟨ds, .inl hx, h⟩
theorem w_truT {ds : List PyData} (hx : x = .py (.tuple ds)) (h : PB (!ds.isEmpty)) : truK PB x := ⟨ds, .inr hx, h⟩
/-- what comes behind a statement is asked once -/
theorem w_cut (J : PEnv → Prop) (h2 : ∀ e, J e → q Pn e) (h1 : ∀ N : PEnv → Prop, (∀ e, J e → N e) → p { Pn with nx := N } env) : pSeq p q Pn env := h1 _ h2
theorem w_cutT (J : Bool → Prop) (h2 : ∀ c, J c → PB c) (h1 : ∀ N : Bool → Prop, (∀ c, J c → N c) → pt env N) : pt env PB := h1 _ h2
/-- what comes behind a value is asked once -/
theorem w_cutE (J : D → Prop) (h2 : ∀ d, J d → P d) (h1 : ∀ N : D → Prop, (∀ d, J d → N d) → pe env N) : pe env P := h1 _ h2
end
end VP

/-! VP8: data of known shape -/
namespace VP
open PySem PySem.Spec PyProof.Rows L2 VB VZ VC RT
mutual
def noList : PyData → Bool
  | .list _ => false
  | .tuple ds => noListA ds
  | .dict _ => false
  | _ => true
def noListA : List PyData → Bool
  | [] => true
  | d :: ds => noList d && noListA ds
end
section
variable {K : PySem.W.Frag} {H : Hp}
mutual
theorem dq_of : ∀ (x : PyData) (v : V), noList x = true → Dp K H v x → Dq K H v x
  | .none, _, _, h => by cases h; exact .non
  | .bool _, _, _, h => by cases h; exact .bl _
  | .int _, _, _, h => by cases h; exact .int _
  | .str _, _, _, h => by cases h; exact .str _
  | .list ds, _, e, h => by simp [noList] at e
  | .tuple ds, _, e, h => by
    cases h with
    | tup hs ha => exact .tup hs (dqa_of ds _ (by simpa [noList] using e) ha)
  | .dict _, _, _, h => by cases h
theorem dqa_of : ∀ (ds : List PyData) (vs : List V), noListA ds = true → DpAll K H vs ds → DqAll K H vs ds
  | [], _, _, h => by cases h; exact .nil
  | x :: ds, _, e, h => by
    cases h with
    | cons h1 h2 =>
      simp only [noListA, Bool.and_eq_true] at e
      exact .cons (dq_of x _ e.1 h1) (dqa_of ds _ e.2 h2)
end
mutual
theorem no_dict : ∀ d : PyData, noList d = true → d.hasDict = false
  | .none, _ => by simp only [PyData.hasDict]
  | .bool _, _ => by simp only [PyData.hasDict]
  | .int _, _ => by simp only [PyData.hasDict]
  | .str _, _ => by simp only [PyData.hasDict]
  | .list _, h => by simp [noList] at h
  | .tuple ds, h => by
    simp only [PyData.hasDict]
    exact noA_dict ds (by simpa [noList] using h)
  | .dict _, h => by simp [noList] at h
theorem noA_dict : ∀ ds : List PyData, noListA ds = true → PyData.hasDictAll ds = false
  | [], _ => by simp only [PyData.hasDictAll]
  | d :: ds, h => by
    simp only [noListA, Bool.and_eq_true] at h
    simp only [PyData.hasDictAll, no_dict d h.1, noA_dict ds h.2, Bool.or_self]
end
theorem noA_map {α : Type} (f : α → PyData) (h : ∀ a, noList (f a) = true) : ∀ l : List α, noListA (l.map f) = true
  | [] => rfl
  | a :: r => by simp only [List.map_cons, noListA, h a, noA_map f h r, Bool.and_self]
theorem no_ln (ns : List Int) : noList (lnD ns) = true := by
  show noListA (ns.map .int) = true
  exact noA_map _ (fun _ => rfl) ns
theorem no_mt (ls : List (List Int)) : noList (mtD ls) = true := by
  show noListA (ls.map lnD) = true
  exact noA_map _ no_ln ls
theorem no_ch (c : Ch) : noList (chD c) = true := by
  show noListA [.str c.sg, lnD c.st, mtD c.sp, mtD c.tl] = true
  simp only [noListA, no_ln, no_mt, noList, Bool.and_self]
end
/-! ### promises of the old kind, without a heap -/
theorem w_draw {n : Int} {P : D → Prop} {X : Ex → Prop} (hn : n.natAbs < 2 ^ 100) (h : ∀ r, 0 ≤ r → (r < n ∨ r = 0) → P (.py (.int r))) : psDraw [.deck, .py (.int n)] P X := ⟨n, rfl, log2_small hn, h⟩
theorem w_pick {xs : List PyData} {P : D → Prop} {X : Ex → Prop} (h1 : 0 < xs.length) (h2 : xs.length ≤ 1000) (h : ∀ z ∈ xs, P (.py z)) : psPick [.deck, .py (.list xs)] P X := ⟨xs, rfl, h1, h2, h⟩
def psShuf : PSp := fun ds P _ => ∃ xs, ds = [.deck, .py (.list xs)] ∧ xs.length ≤ 100 ∧ ∀ ys, ys.Perm xs → P (.py (.list ys))
def psPlain : PSp := fun ds P _ => ∃ c b n k, ds = [.py (chD c)] ∧ ChOk b n k c ∧ b ≤ 2000 ∧ P (.py (chD (plC c)))
def psGcd : PSp := fun ds P _ => ∃ a b : Int, ds = [.py (.int a), .py (.int b)] ∧ P (.py (.int (gcdI a b)))
def frD (a b : Int) : PyData := .tuple [.int (lowA a b), .int (lowB a b)]
def psLow : PSp := fun ds P _ => ∃ a b : Int, ds = [.py (.int a), .py (.int b)] ∧ b ≠ 0 ∧ Bd 8000 b ∧ P (.py (frD a b))
def psLowest (C : Addr) : PSp := fun ds P X => ∃ a b : Int, ds = [.py (.int a), .py (.int b)] ∧ Bd 8000 b ∧ (b = 0 → X ⟨.ref C, none⟩) ∧ (b ≠ 0 → P (.py (frD a b)))
def psEvened : PSp := fun ds P _ => ∃ c b n k, ds = [.py (chD c)] ∧ ChOk b n k c ∧ b ≤ 2000 ∧ Small (c.sp.map plL) ∧ Small (c.tl.map plL) ∧ P (.py (chD (evC c)))
def psManyBy : PSp := fun ds P _ => ∃ c b n k, ds = [.deck, .py (chD c)] ∧ ChOk b n k c ∧ b ≤ 2000 ∧ ∀ e, ChOk (b + 30) n k e → CEq e c → plC e = plC c → P (.py (chD e))
section
variable {K : PySem.W.Frag} {vs : List V} {H : Hp} {Q : VK} {E : XK}
theorem plain_of (h : spP K psPlain vs H Q E) : spPlain K vs H Q E := by
  obtain ⟨m, ds, P, XX, ok, rd, ⟨c, b, n, k, rfl, h1, h2, q⟩, hQ, _⟩ := h
  obtain ⟨v, rfl, r⟩ := rds1 rd
  exact ⟨m, v, c, b, n, k, rfl, ok, r.dp.dp (no_dict _ (no_ch _)), h1, h2, fun r H' g d => hQ _ _ H' g (rdp (dq_of _ _ (no_ch _) d)) q⟩
theorem evened_of (h : spP K psEvened vs H Q E) : spEvened K vs H Q E := by
  obtain ⟨m, ds, P, XX, ok, rd, ⟨c, b, n, k, rfl, h1, h2, h3, h4, q⟩, hQ, _⟩ := h
  obtain ⟨v, rfl, r⟩ := rds1 rd
  exact ⟨m, v, c, b, n, k, rfl, ok, r.dp.dp (no_dict _ (no_ch _)), h1, h2, h3, h4, fun r H' g d => hQ _ _ H' g (rdp (dq_of _ _ (no_ch _) d)) q⟩
theorem manyBy_of (h : spP K psManyBy vs H Q E) : spManyBy K vs H Q E := by
  obtain ⟨m, ds, P, XX, ok, rd, ⟨c, b, n, k, rfl, h1, h2, q⟩, hQ, _⟩ := h
  obtain ⟨v, w, rfl, r, r2⟩ := rds2 rd
  obtain ⟨d, l, rfl, hd⟩ := r
  exact ⟨m, d, l, w, c, b, n, k, rfl, hd, ok, r2.dp.dp (no_dict _ (no_ch _)), h1, h2, fun v H' e g d he hc hp => hQ _ _ H' g (rdp (dq_of _ _ (no_ch _) d)) (q e he hc hp)⟩
theorem gcd_of (h : spP K psGcd vs H Q E) : spGcd vs H Q E := by
  obtain ⟨m, ds, P, XX, ok, rd, ⟨a, b, rfl, q⟩, hQ, _⟩ := h
  obtain ⟨v, w, rfl, r, r2⟩ := rds2 rd
  cases r.dp
  cases r2.dp
  exact ⟨a, b, rfl, hQ _ _ _ (.refl ok) (rdp (.int _)) q⟩
theorem frD_new {m : Md} {p : Addr} {a b : Int} (ok : Ok m H) (hp : H p = none) : Dq K (vw m (upd H p (.tup [.int (lowA a b), .int (lowB a b)]))) (.ref p) (frD a b) := .tup (SqT.of (vw_new ok hp)) (.cons (.int _) (.cons (.int _) .nil))
theorem low_of (h : spP K psLow vs H Q E) : spLow vs H Q E := by
  obtain ⟨m, ds, P, XX, ok, rd, ⟨a, b, rfl, h1, h2, q⟩, hQ, _⟩ := h
  obtain ⟨v, w, rfl, r, r2⟩ := rds2 rd
  cases r.dp
  cases r2.dp
  exact ⟨a, b, rfl, h1, h2, fun p hp => hQ _ _ _ (.new ok hp) (rdp (frD_new ok hp)) q⟩
theorem lowest_of {C : Addr} (h : spP K (psLowest C) vs H Q E) : spLowest C vs H Q E := by
  obtain ⟨m, ds, P, XX, ok, rd, ⟨a, b, rfl, h1, h2, q⟩, hQ, hE⟩ := h
  obtain ⟨v, w, rfl, r, r2⟩ := rds2 rd
  cases r.dp
  cases r2.dp
  exact ⟨a, b, rfl, h1, fun z => hE _ _ _ _ (.refl ok) ⟨rfl, rfl⟩ (h2 z), fun z p hp => hQ _ _ _ (.new ok hp) (rdp (frD_new ok hp)) (q z)⟩
end
/-! ### lists made of integers -/
def isInts (p : PyData) (ns : List Int) : Prop := p = .list (ns.map .int) ∨ p = lnD ns
theorem isInts.src {p : PyData} {ns : List Int} (h : isInts p ns) : srcD (.py p) = some (ns.map .int) := by
  rcases h with rfl | rfl <;> rfl
def itD (p : Int × Int) : PyData := .tuple [.int p.1, .int p.2]
theorem pairs_ii (ns ms : List Int) : pairsD (ns.map .int) (ms.map .int) = (ns.zip ms).map itD := by
  unfold pairsD
  rw [List.zipWith_map, List.zip, List.map_zipWith]
  rfl
def ilD (p : Int × List Int) : PyData := .tuple [.int p.1, lnD p.2]
theorem pairs_il (ns : List Int) (ls : List (List Int)) : pairsD (ns.map .int) (ls.map lnD) = (ns.zip ls).map ilD := by
  unfold pairsD
  rw [List.zipWith_map, List.zip, List.map_zipWith]
  rfl
theorem rng0 (n : Nat) : rngD 0 ((n : Int)).toNat = (List.range n).map fun k => PyData.int (k : Nat) := by
  unfold rngD
  rw [Int.toNat_natCast]
  refine List.map_congr_left fun k _ => ?_
  rw [Int.zero_add]
theorem w_iRn {PD : List PyData → Prop} {n : Nat} (h1 : n ≤ 1000) (h : PD ((List.range n).map fun k => PyData.int (k : Nat))) : iRK PD [.py (.int (n : Int))] := ⟨n, rfl, by omega, by omega, by rw [rng0]; exact h⟩
theorem w_iRVn {PD : List PyData → Prop} {n : Nat} (h1 : n ≤ 1000) (h : PD ((List.range n).map fun k => PyData.int (k : Nat))) : iRVK PD (.rng (n : Int)) := ⟨n, rfl, by omega, by omega, by rw [rng0]; exact h⟩
theorem map_ints {α : Type} (f : α → Int) (l : List α) : (l.map fun a => PyData.int (f a)) = (l.map f).map .int := by rw [List.map_map]; rfl
theorem atI_map {α β : Type} (f : α → β) {l : List α} {j : Nat} {a : α} (h : l[j]? = some a) : atI (l.map f) (j : Int) = some (f a) := by
  have hl : j < l.length := (List.getElem?_eq_some_iff.mp h).1
  exact atI_nat (by rw [List.getElem?_map, h]; rfl)
theorem atI_getD {l : List Int} {j : Nat} (h : j < l.length) : atI (l.map PyData.int) (j : Int) = some (.int (l.getD j 0)) := by
  refine atI_map _ ?_
  rw [List.getElem?_eq_getElem h, List.getD_eq_getElem?_getD, List.getElem?_eq_getElem h]
  rfl
theorem atI_neg1 {α : Type} {l : List α} {a : α} (h : l.getLast? = some a) : atI l (-1) = some a := by
  unfold atI ixN
  have hn : l ≠ [] := fun z => by subst z; cases h
  have hl : 0 < l.length := List.length_pos_iff.mpr hn
  rw [if_neg (by decide), if_pos (by omega)]
  show l[((-1 : Int) + l.length).toNat]? = some a
  have e : ((-1 : Int) + l.length).toNat = l.length - 1 := by omega
  rw [e, ← List.getLast?_eq_getElem?]
  exact h
theorem all2_ints {α : Type} {as : List α} {Pz : α → Int → Prop} : ∀ {ds : List PyData}, All2 (fun a p => ∃ z : Int, p = .int z ∧ Pz a z) as ds → ∃ ns : List Int, ds = ns.map .int ∧ ns.length = as.length ∧ All2 Pz as ns := by
  intro ds h
  induction h with
  | nil => exact ⟨[], rfl, rfl, .nil⟩
  | cons h1 _ ih =>
    obtain ⟨z, rfl, hz⟩ := h1
    obtain ⟨ns, rfl, hl, hn⟩ := ih
    exact ⟨z :: ns, rfl, by simp [hl], .cons hz hn⟩
theorem all2_mem {α β : Type} {R : α → β → Prop} {as : List α} {bs : List β} (h : All2 R as bs) : ∀ b ∈ bs, ∃ a ∈ as, R a b := by
  induction h with
  | nil => intro b hb; cases hb
  | cons h1 _ ih =>
    intro b hb
    rcases List.mem_cons.mp hb with rfl | hb
    · exact ⟨_, List.mem_cons_self, h1⟩
    · obtain ⟨a, ha, hr⟩ := ih b hb
      exact ⟨a, List.mem_cons_of_mem _ ha, hr⟩
theorem all2_get {α β : Type} {R : α → β → Prop} {as : List α} {bs : List β} (h : All2 R as bs) : ∀ {i : Nat} {b : β}, bs[i]? = some b → ∃ a, as[i]? = some a ∧ R a b := by
  induction h with
  | nil => intro i b e; cases e
  | cons h1 _ ih =>
    intro i b e
    cases i with
    | zero => cases e; exact ⟨_, rfl, h1⟩
    | succ i => exact ih e
theorem all2_len {α β : Type} {R : α → β → Prop} {as : List α} {bs : List β} (h : All2 R as bs) : bs.length = as.length := by
  induction h with
  | nil => rfl
  | cons _ _ ih => simp [ih]
/-- what a list of picked items is -/
theorem all2_pick {α β : Type} {as : List α} {S : β → Prop} {f : β → PyData} : ∀ {ds : List PyData}, All2 (fun (_ : α) p => ∃ b, p = f b ∧ S b) as ds → ∃ bs : List β, ds = bs.map f ∧ bs.length = as.length ∧ ∀ b ∈ bs, S b := by
  intro ds h
  induction h with
  | nil => exact ⟨[], rfl, rfl, fun b hb => nomatch hb⟩
  | cons h1 _ ih =>
    obtain ⟨b, rfl, hb⟩ := h1
    obtain ⟨bs, rfl, hl, hs⟩ := ih
    exact ⟨b :: bs, rfl, by simp [hl], fun x hx => (List.mem_cons.mp hx).elim (fun e => e ▸ hb) (hs x)⟩
theorem perm_sgD {ys : List PyData} {l : List Nat} (h : ys.Perm (l.map sgD)) : ∃ cs : List Nat, ys = cs.map sgD ∧ cs.Perm l := by
  let f : PyData → Nat := fun p => match p with
    | .str z => z.cps.toList.headD 0
    | _ => 0
  refine ⟨ys.map f, ?_, ?_⟩
  · rw [List.map_map]
    conv => lhs; rw [← List.map_id ys]
    refine List.map_congr_left fun y hy => ?_
    obtain ⟨c, _, rfl⟩ := List.mem_map.mp (h.mem_iff.mp hy)
    rfl
  · have := h.map f
    rw [List.map_map] at this
    have e : (f ∘ sgD) = id := rfl
    rw [e, List.map_id] at this
    exact this
theorem cutD_take (xs : List PyData) (n : Nat) : cutD xs none (some (n : Int)) = xs.take n := by
  unfold cutD
  rw [HT.sIx_none, show HT.sIx xs.length xs.length (some (n : Int)) = min n xs.length from HT.sIx_nat _ _ n, List.drop_zero, Nat.sub_zero]
  by_cases h : n ≤ xs.length
  · rw [Nat.min_eq_left h]
  · rw [Nat.min_eq_right (by omega), List.take_of_length_le (Nat.le_refl _), List.take_of_length_le (by omega)]
/-! ### sizes -/
theorem Bd.sum8 {k : Nat} : ∀ {ns : List Int}, ns.length ≤ 8 → (∀ x ∈ ns, Bd k x) → Bd (k + 3) ns.sum := by
  have key : ∀ ns : List Int, (∀ x ∈ ns, Bd k x) → ns.sum.natAbs ≤ ns.length * 2 ^ k := by
    intro ns
    induction ns with
    | nil => intro _; simp
    | cons x r ih =>
      intro h
      have h1 : x.natAbs < 2 ^ k := h x (by simp)
      have h2 := ih fun y hy => h y (by simp [hy])
      rw [List.sum_cons, List.length_cons, Nat.add_mul, Nat.one_mul]
      have := Int.natAbs_add_le x r.sum
      omega
  intro ns hl h
  show ns.sum.natAbs < 2 ^ (k + 3)
  by_cases z : ns = []
  · subst z
    simp
    exact Nat.two_pow_pos _
  · have h1 := key ns h
    have h2 : ns.length * 2 ^ k ≤ 8 * 2 ^ k := Nat.mul_le_mul_right _ hl
    have e : 2 ^ (k + 3) = 8 * 2 ^ k := by rw [Nat.pow_add]; omega
    rw [e]
    refine Nat.lt_of_le_of_ne (Nat.le_trans h1 h2) fun q => ?_
    -- all of them together below: each is less
    have key2 : ∀ ns : List Int, ns ≠ [] → (∀ x ∈ ns, Bd k x) → ns.sum.natAbs < ns.length * 2 ^ k := by
      intro ns
      cases ns with
      | nil => intro z; exact absurd rfl z
      | cons x r =>
        intro _ h
        have h1 : x.natAbs < 2 ^ k := h x (by simp)
        have h2 := key r fun y hy => h y (by simp [hy])
        rw [List.sum_cons, List.length_cons, Nat.add_mul, Nat.one_mul]
        have := Int.natAbs_add_le x r.sum
        omega
    have := key2 ns z h
    omega
end VP

/-! VP9: views, parts along them: the program's tables -/
namespace VP
open PySem PySem.Spec PyProof.Rows L2 VB VZ VC RT
/-! unpacking a list -/
section
variable {X : Cx} {B : Hp} {m0 : Md} {es : List Expr} {pos : Pos} {gs : TGs} {js : List Nat} {pgs : PTGs}
def pgUnl (n : Nat) (pgs : PTGs) : PTG := fun d env P => ∃ ds, d = .list ds ∧ ds.length = n ∧ pgs ds env P
theorem qg_unl {K' : PySem.W.Frag} {k n : Nat} (hc : X.calm = true) (h : QGs X B m0 es gs js pgs) (hn : (assignEach es X.env).length = n := by rfl) (hst : (assignEach es X.env).findIdx? (·.1) = none := by rfl) (hK : X.K = K' := by rfl) : QG X B m0 (.Tuple es k pos) (gUnl K' n gs) js (pgUnl n pgs) := by
  subst hK
  exact ⟨pg_unl hc h.p hn hst, fun W σ env H x d S P hR hd hp k => by
    obtain ⟨ds, rfl, hl, q⟩ := hp
    obtain ⟨p, xs, rfl, e1, a1⟩ := dq_lst hd
    exact ⟨p, xs, rfl, SqL.of (vw_sub _ _ e1), by rw [dqa_len a1]; exact hl, h.s W σ env H _ _ _ _ hR a1 q k⟩⟩
theorem w_gUnl {n : Nat} {ds : List PyData} {z : PyData} {env : PEnv} {Q : PEnv → Prop} (hx : z = .list ds) (hl : ds.length = n) (h : pgs ds env Q) : pgUnl n pgs z env Q := ⟨ds, hx, hl, h⟩
end
/-! ### numbered walks -/
section
variable {env : PEnv} {p : PTS} {Pn : PEn}
theorem num_map {α : Type} (as : List α) (g : α → PyData) : numD (as.map g) = as.zipIdx.map fun q => PyData.tuple [.int (q.2 : Nat), g q.1] := by
  unfold numD
  rw [List.mapIdx_eq_zipIdx_map]
  refine List.ext_getElem? fun i => ?_
  simp only [List.getElem?_map, List.getElem?_zipIdx]
  cases as[i]? <;> rfl
theorem for_num {α : Type} {pg : PTG} (as : List α) (g : α → PyData) (I : Nat → PEnv → Prop) (h0 : I 0 env) (hs : ∀ i a env, as[i]? = some a → I i env → ∀ Nn : PEnv → Prop, (∀ e, I (i + 1) e → Nn e) → pg (.tuple [.int (i : Nat), g a]) env fun env2 => p { Pn with nx := Nn, ct := Nn, bk := Pn.nx } env2)
    (hd : ∀ env, I as.length env → Pn.nx env) : forK pg p Pn env (numD (as.map g)) := by
  rw [num_map]
  refine for_inv as.zipIdx _ I h0 (fun i q env hi h Nn hn => ?_) fun env h => hd env (by rwa [List.length_zipIdx] at h)
  rw [List.getElem?_zipIdx] at hi
  cases e : as[i]? with
  | none => rw [e] at hi; cases hi
  | some a =>
    rw [e] at hi
    cases hi
    rw [Nat.zero_add]
    exact hs i a env e h Nn hn
end
/-! ### views -/
def optS (sg : Str) (a : Nat) : Option Nat := if a = 46 then none else some (sg.cps.toList.idxOf a)
def ovs (sg z : Str) : List (Option Nat) := z.cps.toList.map (optS sg)
structure VwOk (sg z : Str) (L : Nat) : Prop where
  let_ : ∀ a ∈ z.cps.toList, a = 46 ∨ a ∈ sg.cps.toList
  len : z.cps.toList.length = L
  l41 : L ≤ 41
theorem str_dec (a : Nat) (s : Nat) : decide ((⟨#[a]⟩ : Str) = ⟨#[s]⟩) = decide (a = s) := by
  by_cases h : a = s
  · subst h; simp
  · rw [decide_eq_false h]
    exact decide_eq_false fun e => h (by
      have := congrArg (fun z : Str => z.cps.toList) e
      simpa using this)
theorem dot_dec (a : Nat) : sEq (sgD a) (.str ".") = decide (a = 46) := str_dec a 46
theorem empty_dec (z : Str) : sEq (.str z) (.str "") = z.cps.toList.isEmpty := by
  show decide (z = "") = _
  by_cases h : z.cps.toList = []
  · rw [h]
    refine decide_eq_true ?_
    have e : z.cps = #[] := by
      apply Array.toList_inj.mp
      rw [h]
    cases z
    simp only at e
    subst e
    rfl
  · have h2 : z.cps.toList.isEmpty = false := by
      cases q : z.cps.toList with
      | nil => exact absurd q h
      | cons a r => rfl
    rw [h2]
    refine decide_eq_false fun e => h ?_
    subst e
    rfl
/-- where a sign stands -/
theorem get_idxOf {l : List Nat} {a : Nat} (h : a ∈ l) : l[l.idxOf a]? = some a := by
  have hl : l.idxOf a < l.length := List.idxOf_lt_length_of_mem h
  rw [List.getElem?_eq_getElem hl, List.getElem_idxOf]
theorem sg_index {k : Nat} {sg : Str} {a : Nat} (hs : Sgs k sg) (h : a ∈ sg.cps.toList) : ∃ rest, Builtin.Str.occurrences sg ⟨#[a]⟩ 0 sg.length 1 = sg.cps.toList.idxOf a :: rest := idx_sg hs.asc (get_idxOf h)
theorem sg_lt {k : Nat} {sg : Str} {a : Nat} (hs : Sgs k sg) (h : a ∈ sg.cps.toList) : sg.cps.toList.idxOf a < k := by
  rw [← hs.len]
  exact List.idxOf_lt_length_of_mem h
theorem sg_ne {k : Nat} {sg : Str} {a : Nat} (hs : Sgs k sg) (h : a ∈ sg.cps.toList) : a ≠ 46 := by
  have := hs.let_ a h
  omega
/-! ### what is told at a place -/
def lD (ns : List Int) : PyData := .list (ns.map .int)
def tlO (c : Ch) : Option Nat → List Int
  | none => c.st.map fun _ => 1
  | some j => c.tl.map fun l => l.getD j 0
def tlS (A : Int) : Option Nat → Int
  | none => 1
  | some _ => A
def metI (ns ms : List Int) : List Int := List.zipWith (· * ·) ns ms
/-- the tables, place by place -/
def aStep (c : Ch) (n : Nat) (t : List (List Int)) (o : Option Nat) : List (List Int) :=
  t ++ [metI (match t.getLast? with | none => c.st | some p => goneL p c.sp n) (tlO c o)]
def aheadF (c : Ch) (n : Nat) (os : List (Option Nat)) : List (List Int) := os.foldl (aStep c n) []
def sStep (A1 A2 : Int) (p : Int × List Int) (o : Option Nat) : Int × List Int := (p.1 * tlS A2 o * A1, p.2 ++ [p.1 * tlS A2 o])
def sumsF (A0 A1 A2 : Int) (os : List (Option Nat)) : Int × List Int := os.foldl (sStep A1 A2) (A0, [])
theorem aheadF_snoc (c : Ch) (n : Nat) (os : List (Option Nat)) (o : Option Nat) : aheadF c n (os ++ [o]) = aStep c n (aheadF c n os) o := by unfold aheadF; rw [List.foldl_append]; rfl
theorem sumsF_snoc (A0 A1 A2 : Int) (os : List (Option Nat)) (o : Option Nat) : sumsF A0 A1 A2 (os ++ [o]) = sStep A1 A2 (sumsF A0 A1 A2 os) o := by unfold sumsF; rw [List.foldl_append]; rfl
theorem aheadF_len (c : Ch) (n : Nat) : ∀ os : List (Option Nat), (aheadF c n os).length = os.length := by
  intro os
  have key : ∀ (os : List (Option Nat)) (t : List (List Int)), (os.foldl (aStep c n) t).length = t.length + os.length := by
    intro os
    induction os with
    | nil => intro t; rfl
    | cons o r ih =>
      intro t
      rw [List.foldl_cons, ih]
      unfold aStep
      simp
      omega
  have q := key os []
  show (os.foldl (aStep c n) []).length = _
  rw [q]
  simp
/-- a chain in functions -/
def fSt (c : Ch) (u : Nat) : Int := c.st.getD u 0
def fSp (c : Ch) (s u : Nat) : Int := (c.sp.getD s []).getD u 0
def fTl (c : Ch) (u : Nat) : Option Nat → Int
  | none => 1
  | some j => (c.tl.getD u []).getD j 0
theorem list_fun {n : Nat} {l : List Int} (h : l.length = n) : l = (List.range n).map fun u => l.getD u 0 := by
  refine List.ext_getElem (by simp [h]) fun i h1 h2 => ?_
  rw [List.getElem_map, List.getElem_range, List.getD_eq_getElem?_getD, List.getElem?_eq_getElem h1]
  rfl
theorem zip_fun {n : Nat} {f g : Nat → Int} : List.zipWith (· * ·) ((List.range n).map f) ((List.range n).map g) = (List.range n).map fun u => f u * g u := by
  refine List.ext_getElem (by simp) fun i h1 h2 => ?_
  simp
structure Shp (n k : Nat) (c : Ch) : Prop where
  st : c.st.length = n
  sp : c.sp.length = n
  spl : ∀ l ∈ c.sp, l.length = n
  tl : c.tl.length = n
  tll : ∀ l ∈ c.tl, l.length = k
theorem tlO_fun {n k : Nat} {c : Ch} (h : Shp n k c) (o : Option Nat) : tlO c o = (List.range n).map fun u => fTl c u o := by
  cases o with
  | none =>
    refine List.ext_getElem (by simp [tlO, h.st]) fun i h1 h2 => ?_
    simp [tlO, fTl]
  | some j =>
    refine List.ext_getElem (by simp [tlO, h.tl]) fun i h1 h2 => ?_
    have hi : i < c.tl.length := by simpa [tlO] using h1
    simp [tlO, fTl, List.getD_eq_getElem?_getD, List.getElem?_eq_getElem hi]
theorem told_fun {n : Nat} {ls : List (List Int)} {f : Nat → Int} (h : ls.length = n) (u : Nat) : (toldL ((List.range n).map f) ls u).sum = sumN n fun s => f s * (ls.getD s []).getD u 0 := by
  unfold toldL sumN
  refine congrArg List.sum (List.ext_getElem (by simp [h]) fun i h1 h2 => ?_)
  have hi : i < ls.length := by simp at h1; omega
  simp [List.getD_eq_getElem?_getD, List.getElem?_eq_getElem hi]
/-- the last of the parts -/
theorem aheadF_last {n k : Nat} {c : Ch} (h : Shp n k c) : ∀ (r : List (Option Nat)) (o : Option Nat), (aheadF c n (o :: r).reverse).getLast? = some ((List.range n).map fun u => partsR (fSt c) (fSp c) (fTl c) n (o :: r) u)
  | [], o => by
    show (aheadF c n ([] ++ [o])).getLast? = _
    rw [aheadF_snoc]
    show (([] : List (List Int)) ++ [metI c.st (tlO c o)]).getLast? = _
    rw [List.getLast?_append]
    show some (metI c.st (tlO c o)) = _
    rw [tlO_fun h o]
    congr 1
    unfold metI
    conv => lhs; rw [list_fun h.st]
    exact zip_fun
  | o2 :: r, o => by
    rw [List.reverse_cons, aheadF_snoc]
    unfold aStep
    rw [aheadF_last h r o2, List.getLast?_append]
    show some (metI (goneL _ c.sp n) (tlO c o)) = _
    rw [tlO_fun h o]
    congr 1
    unfold metI goneL
    have e : ((List.range n).map fun u => (toldL ((List.range n).map fun u => partsR (fSt c) (fSp c) (fTl c) n (o2 :: r) u) c.sp u).sum) = (List.range n).map fun u => sumN n fun s => partsR (fSt c) (fSp c) (fTl c) n (o2 :: r) s * fSp c s u :=
      List.map_congr_left fun u _ => told_fun h.sp u
    rw [e]
    exact zip_fun
theorem tlS_if (A : Int) (o : Option Nat) : tlS A o = if o = none then 1 else A := by
  cases o <;> simp [tlS]
theorem sumsF_last (A0 A1 A2 : Int) : ∀ (r : List (Option Nat)) (o : Option Nat), (sumsF A0 A1 A2 (o :: r).reverse).2.getLast? = some (underR A0 A1 A2 (o :: r)) ∧ (sumsF A0 A1 A2 (o :: r).reverse).1 = underR A0 A1 A2 (o :: r) * A1
  | [], o => by
    show (sumsF A0 A1 A2 ([] ++ [o])).2.getLast? = _ ∧ (sumsF A0 A1 A2 ([] ++ [o])).1 = _
    rw [sumsF_snoc]
    show (([] : List Int) ++ [A0 * tlS A2 o]).getLast? = _ ∧ A0 * tlS A2 o * A1 = _
    rw [tlS_if]
    exact ⟨by rw [List.getLast?_append]; rfl, rfl⟩
  | o2 :: r, o => by
    obtain ⟨_, i2⟩ := sumsF_last A0 A1 A2 r o2
    rw [List.reverse_cons, sumsF_snoc]
    unfold sStep
    simp only
    rw [i2, tlS_if]
    exact ⟨by rw [List.getLast?_append]; rfl, rfl⟩
/-! ### sizes along a view -/
theorem metI_bd {b c : Nat} : ∀ {ns ms : List Int}, (∀ x ∈ ns, Bd b x) → (∀ x ∈ ms, Bd c x) → ∀ x ∈ metI ns ms, Bd (b + c) x
  | [], _, _, _, x, h => by cases h
  | _ :: _, [], _, _, x, h => by cases h
  | a :: r, d :: s, h1, h2, x, h => by
    have h' : x ∈ a * d :: metI r s := h
    rcases List.mem_cons.mp h' with rfl | h'
    · exact (h1 a (by simp)).mul (h2 d (by simp))
    · exact metI_bd (fun y hy => h1 y (by simp [hy])) (fun y hy => h2 y (by simp [hy])) x h'
theorem metI_len {n : Nat} {ns ms : List Int} (h1 : ns.length = n) (h2 : ms.length = n) : (metI ns ms).length = n := by unfold metI; rw [List.length_zipWith, h1, h2, Nat.min_self]
theorem getD_bd {b : Nat} {l : List Int} (h : ∀ x ∈ l, Bd b x) (j : Nat) : Bd b (l.getD j 0) := by
  rw [List.getD_eq_getElem?_getD]
  cases e : l[j]? with
  | none => show (0 : Int).natAbs < 2 ^ b; exact Nat.two_pow_pos _
  | some x => exact h x (List.mem_of_getElem? e)
theorem toldL_bd {b c : Nat} : ∀ {ps : List Int} {ls : List (List Int)} (u : Nat), (∀ x ∈ ps, Bd b x) → (∀ l ∈ ls, ∀ x ∈ l, Bd c x) → ∀ x ∈ toldL ps ls u, Bd (b + c) x
  | [], _, _, _, _, x, h => by cases h
  | _ :: _, [], _, _, _, x, h => by cases h
  | a :: r, d :: s, u, h1, h2, x, h => by
    have h' : x ∈ a * d.getD u 0 :: toldL r s u := h
    rcases List.mem_cons.mp h' with rfl | h'
    · exact (h1 a (by simp)).mul (getD_bd (h2 d (by simp)) u)
    · exact toldL_bd u (fun y hy => h1 y (by simp [hy])) (fun y hy => h2 y (by simp [hy])) x h'
theorem goneL_bd {b c n : Nat} {ps : List Int} {ls : List (List Int)} (hn : n ≤ 8) (hl : ps.length ≤ 8) (h1 : ∀ x ∈ ps, Bd b x) (h2 : ∀ l ∈ ls, ∀ x ∈ l, Bd c x) : ∀ x ∈ goneL ps ls n, Bd (b + c + 3) x := by
  intro x hx
  obtain ⟨u, _, rfl⟩ := List.mem_map.mp hx
  exact Bd.sum8 (by unfold toldL; rw [List.length_zipWith]; omega) (toldL_bd u h1 h2)
theorem goneL_len {n : Nat} {ps : List Int} {ls : List (List Int)} : (goneL ps ls n).length = n := by unfold goneL; simp
structure Sz (b : Nat) (c : Ch) : Prop where
  st : ∀ x ∈ c.st, Bd b x
  sp : ∀ l ∈ c.sp, ∀ x ∈ l, Bd b x
  tl : ∀ l ∈ c.tl, ∀ x ∈ l, Bd b x
theorem tlO_bd {b : Nat} {c : Ch} (h : Sz b c) (hb : 1 ≤ b) (o : Option Nat) : ∀ x ∈ tlO c o, Bd b x := by
  intro x hx
  cases o with
  | none =>
    obtain ⟨_, _, rfl⟩ := List.mem_map.mp hx
    show 1 < 2 ^ b
    exact Nat.one_lt_two_pow (by omega)
  | some j =>
    obtain ⟨l, hl, rfl⟩ := List.mem_map.mp hx
    exact getD_bd (h.tl l hl) j
theorem tlO_len {n k : Nat} {c : Ch} (h : Shp n k c) (o : Option Nat) : (tlO c o).length = n := by
  cases o with
  | none => simp [tlO, h.st]
  | some j => simp [tlO, h.tl]
/-- each line of the table -/
theorem aheadF_all {n k b : Nat} {c : Ch} (h : Shp n k c) (z : Sz b c) (hb : 1 ≤ b) (hn : n ≤ 8) : ∀ (os : List (Option Nat)), ∀ l ∈ aheadF c n os, l.length = n ∧ ∀ x ∈ l, Bd ((2 * b + 3) * os.length) x := by
  intro os
  have key : ∀ (r : List (Option Nat)), ∀ l ∈ aheadF c n r.reverse, l.length = n ∧ ∀ x ∈ l, Bd ((2 * b + 3) * r.length) x := by
    intro r
    induction r with
    | nil => intro l hl; cases hl
    | cons o r ih =>
      intro l hl
      rw [List.reverse_cons, aheadF_snoc] at hl
      unfold aStep at hl
      have eL : (2 * b + 3) * (r.length + 1) = (2 * b + 3) * r.length + (2 * b + 3) := Nat.mul_succ _ _
      rcases List.mem_append.mp hl with hl | hl
      · obtain ⟨i1, i2⟩ := ih l hl
        exact ⟨i1, fun x hx => (i2 x hx).mono (by rw [List.length_cons, eL]; omega)⟩
      · rw [List.mem_singleton] at hl
        subst hl
        cases q : (aheadF c n r.reverse).getLast? with
        | none =>
          simp only
          refine ⟨metI_len h.st (tlO_len h o), fun x hx => ?_⟩
          exact (metI_bd z.st (tlO_bd z hb o) x hx).mono (by rw [List.length_cons, eL]; omega)
        | some p =>
          simp only
          obtain ⟨i1, i2⟩ := ih p (List.mem_of_getLast? q)
          refine ⟨metI_len goneL_len (tlO_len h o), fun x hx => ?_⟩
          exact (metI_bd (goneL_bd hn (by omega) i2 z.sp) (tlO_bd z hb o) x hx).mono (by rw [List.length_cons, eL]; omega)
  have := key os.reverse
  rwa [List.reverse_reverse, List.length_reverse] at this
theorem tlS_bd {b : Nat} {A : Int} (h : Bd b A) (hb : 1 ≤ b) (o : Option Nat) : Bd b (tlS A o) := by
  cases o with
  | none => show 1 < 2 ^ b; exact Nat.one_lt_two_pow (by omega)
  | some _ => exact h
theorem sumsF_all {b : Nat} {A0 A1 A2 : Int} (h0 : Bd b A0) (h1 : Bd b A1) (h2 : Bd b A2) (hb : 1 ≤ b) : ∀ os : List (Option Nat), Bd (2 * b * os.length + b) (sumsF A0 A1 A2 os).1 ∧ (sumsF A0 A1 A2 os).2.length = os.length ∧ ∀ x ∈ (sumsF A0 A1 A2 os).2, Bd (2 * b * os.length) x := by
  intro os
  have key : ∀ r : List (Option Nat), Bd (2 * b * r.length + b) (sumsF A0 A1 A2 r.reverse).1 ∧ (sumsF A0 A1 A2 r.reverse).2.length = r.length ∧ ∀ x ∈ (sumsF A0 A1 A2 r.reverse).2, Bd (2 * b * r.length) x := by
    intro r
    induction r with
    | nil => exact ⟨h0.mono (by simp), rfl, fun x hx => nomatch hx⟩
    | cons o r ih =>
      obtain ⟨i1, i2, i3⟩ := ih
      rw [List.reverse_cons, sumsF_snoc]
      unfold sStep
      have eL : 2 * b * (r.length + 1) = 2 * b * r.length + 2 * b := Nat.mul_succ _ _
      have t := i1.mul (tlS_bd h2 hb o)
      refine ⟨(t.mul h1).mono (by rw [List.length_cons, eL]; omega), by simp [i2], fun x hx => ?_⟩
      rcases List.mem_append.mp hx with hx | hx
      · exact (i3 x hx).mono (by rw [List.length_cons, eL]; omega)
      · rw [List.mem_singleton.mp hx]
        exact t.mono (by rw [List.length_cons, eL]; omega)
  have := key os.reverse
  rwa [List.reverse_reverse, List.length_reverse] at this
end VP

/-! VP10: the law itself -/
namespace VP
open PySem PySem.Spec PyProof.Rows L2 VB VZ VC RT
def oReprF : PC := fun ds P => ∃ (u : PyData) (S : Str), ds = [.py u] ∧ S = u.shown ∧ FitB u ∧ P (.py (.str S))
theorem sc_reprF {K : PySem.W.Frag} : SC K (rRepr K) oReprF := sc_flat fun m H xs ds Q P ho rx q k => by
  obtain ⟨p, S, rfl, eS, f, h⟩ := q
  obtain ⟨v, rfl, r⟩ := rds1 rx
  exact r_reprB (r.dp.mv vw_sub).dx f (eS ▸ k _ _ (rdp (.str S)) h)
/-- a text that repr made, by a name -/
theorem w_reprF {x : D} {u : PyData} {S : Str} {P : D → Prop} (e : S = u.shown) (hx : x = .py u) (f : Fit u) (q : P (.py (.str S))) : oReprF [x] P := ⟨u, S, by rw [hx], e, f.toB, q⟩
theorem w_reprFB {x : D} {u : PyData} {S : Str} {P : D → Prop} (e : S = u.shown) (hx : x = .py u) (f : FitB u) (q : P (.py (.str S))) : oReprF [x] P := ⟨u, S, by rw [hx], e, f, q⟩
theorem str_ne_self (S : Str) : (!sEq (.str S) (.str S)) = false := by
  show (!decide (S = S)) = false
  rw [decide_eq_true rfl]
  rfl
theorem fr_fit {x s : Int} (hx : Bd 1900 x) (hs : Bd 1900 s) (h0 : s ≠ 0) : (frD x s).showable = true ∧ (frD x s).depth = 1 ∧ wt (frD x s) = 3849 := sh_fit hx hs h0 (by decide) (by decide)
theorem fit_fr {x s : Int} (hx : Bd 1900 x) (hs : Bd 1900 s) (h0 : s ≠ 0) : Fit (frD x s) := by
  obtain ⟨a, b, c⟩ := fr_fit hx hs h0
  exact ⟨a, by rw [c]; decide, by rw [b]; decide⟩
theorem fit_fr4 {x s : Int} (hx : Bd 1900 x) (hs : Bd 1900 s) (h0 : s ≠ 0) : Fit (.list [frD x s, frD x s, frD x s, .tuple [.int 1, .int 1]]) := by
  obtain ⟨a, b, c⟩ := fr_fit hx hs h0
  have b1 : Bd 1900 1 := by show (1 : Int).natAbs < 2 ^ 1900; exact Nat.one_lt_two_pow (by decide)
  have one := fr_fit (x := 1) (s := 1) b1 b1 (by decide)
  have e1 : frD 1 1 = .tuple [.int 1, .int 1] := by
    have a : lowA 1 1 = 1 := by decide +kernel
    have b : lowB 1 1 = 1 := by decide +kernel
    unfold frD
    rw [a, b]
  rw [e1] at one
  obtain ⟨o1, o2, o3⟩ := one
  generalize PyData.tuple [.int 1, .int 1] = U at *
  refine ⟨?_, ?_, ?_⟩
  · simp only [PyData.showable, PyData.showableAll]
    rw [a, o1]
    rfl
  · show wt (frD x s) + 2 + (wt (frD x s) + 2 + (wt (frD x s) + 2 + (wt U + 2 + 0))) + 3 ≤ _
    omega
  · show max (frD x s).depth (max (frD x s).depth (max (frD x s).depth (max U.depth 0))) + 1 < 60
    omega
theorem okLaw {P : Program} {w : World} {K : PySem.W.Frag} {mg : Str → Option Value} {base : Heap} {st st1 : Stmt} {rest : List Stmt} {f : Addr} {fd : FuncData} {N : List Str} {k : Nat}
    (F : Fun K "law" "law" st f fd) (S : FnScope N ["script"] (defScope st)) (hN : 2 ≤ N.length) (hb : defBody st = st1 :: rest)
    (hbody : ∀ (cdv : Value) (A : Around) (out : List Env) (s : Shared) (H : Hp) (E : XK),
      Gu base (A.deeper (envOfC "law" (defScope st) s.heap.objs.size f cdv)) → Room k (A.deeper (envOfC "law" (defScope st) s.heap.objs.size f cdv)) →
      ∃ E1 t p, PS (cxOf (L2.CX P w) P w K mg base N "law" (defScope st) f cdv A out s H E) st1 (tAsg (tCallS (spDeck K) E1 (tCons (tVar 0) tNil)) (gName 1)) ∧
        (∀ BB m0, QSs (cxOf (L2.CX P w) P w K mg base N "law" (defScope st) f cdv A out s H E) BB m0 rest t p) ∧
        p { nx := fun _ => False, rt := fun d => d = .py (.bool true) } (.no :: .deck :: List.replicate (N.length - 2) .no)) :
    FG P w K mg base (k + 1) f fd ["script"] (spLaw K) := by
  refine okX F S (fun vs H Q E h => ?_) (fun cdv A out s H vs Q E gu hr h => ?_)
  · obtain ⟨a, ns, rfl, _⟩ := h
    rfl
  · obtain ⟨a, ns, rfl, hS, hlen, hk⟩ := h
    obtain ⟨E1, t, p, h1, h2, h3⟩ := hbody cdv A out s H E gu hr
    refine ⟨_, by rw [hb]; exact pss_cons h1 (h2 H ⟨none, []⟩).p, ?_⟩
    refine r_seq (r_set (r_call ?_))
    refine r_cons (r_var (v := .ref a) (by rfl) (r_nil ?_))
    refine ⟨a, ns, rfl, hS, hlen, fun d l H0 hd0 hl0 s0 hD => ?_⟩
    have hok : Ok (⟨some (d, l), []⟩ : Md) H0 := ⟨fun d' l' q => by cases q; exact hD, fun a ha => nomatch ha⟩
    have R0 : Rl ⟨K, vd (some (d, l)) H0, ⟨some (d, l), []⟩⟩ ⟨⟨some (d, l), []⟩, fun _ => none⟩ ((L2.start N [V.ref a]).set 1 (some (.ref d))) (.no :: .deck :: List.replicate (N.length - 2) .no) H0 := by
      have len : ((L2.start N [V.ref a]).set 1 (some (.ref d))).length = N.length := by
        rw [List.length_set]
        show ([V.ref a].map some ++ List.replicate (N.length - 1) none).length = _
        rw [List.length_append, List.length_replicate]
        show 1 + (N.length - 1) = N.length
        omega
      refine ⟨hok, rfl, fun a h => h, (show Same (vd (some (d, l)) H0) H0 from vd_sub), (show ∀ a o, vd (some (d, l)) H0 a = some o → _ from fun a o e => vd_some e), (fun _ h => .inl h), (fun i a e => nomatch (show (none : Option Addr) = some a from e)), (fun i j a e => nomatch (show (none : Option Addr) = some a from e)), ?_, fun i dd e => ?_⟩
      · rw [len]
        show N.length = (List.replicate (N.length - 2) D.no).length + 1 + 1
        rw [List.length_replicate]
        omega
      · match i, e with
        | 0, e =>
          cases e
          exact ⟨_, List.getElem?_eq_getElem (by rw [len]; omega), trivial⟩
        | 1, e =>
          cases e
          refine ⟨some (.ref d), ?_, .ref d, rfl, d, l, rfl, rfl⟩
          rw [List.getElem?_set]
          rw [if_pos rfl, if_pos]
          rw [List.length_set] at len
          omega
        | i + 2, e =>
          have e' : (List.replicate (N.length - 2) D.no)[i]? = some dd := e
          rw [List.getElem?_replicate] at e'
          split at e'
          · rename_i c
            cases e'
            exact ⟨_, List.getElem?_eq_getElem (by rw [len]; omega), trivial⟩
          · cases e'
    refine (h2 (vd (some (d, l)) H0) ⟨some (d, l), []⟩).s (fun _ => none) ⟨⟨some (d, l), []⟩, fun _ => none⟩ _ _ H0 _ { nx := fun _ => False, rt := fun d => d = .py (.bool true) } R0 (fun a o e => by cases e)
      ⟨fun W σ env H' r _ pp => pp.elim, fun _ _ _ _ _ _ z => (show False from z).elim, fun _ _ _ _ _ _ z => (show False from z).elim, fun W σ env H' v dd r rv pp => ?_⟩ h3
    subst pp
    cases rv.dp
    exact hk H'
end VP

/-! VP11: lists turned about, insert -/
namespace VP
open PySem PySem.Spec PyProof.Rows L2 VB VZ VC RT
section
variable {X : Cx} {B : Hp} {m0 : Md} {b : Bs} {e c o : Expr} {te tj : TE} {pe pj : PTE} {pos pos' apos cpos p1 p2 p3 : Pos} {i k : Nat} {x : Str}
/-- xs[::-1] -/
def pRevL (pe : PTE) : PTL := fun env P => pe env fun d => ∃ a, d = .py (.list a) ∧ P a.reverse
theorem sf_revL (h : SE b te pe) : SF b (tRevL b.K te) (pRevL pe) := by
  intro W σ env H Q P hR hp k
  refine h W σ env H _ _ hR hp fun v d H1 g1 r1 q1 => ?_
  obtain ⟨a, rfl, q⟩ := q1
  obtain ⟨p, xs, rfl, e1, a1⟩ := dq_lst r1.dp
  refine ⟨p, xs, rfl, SqL.of (vw_sub _ _ e1), fun p2 hp2 => ?_⟩
  exact k p2 xs.reverse a.reverse _ (g1.trans (.new g1.ok hp2)) (g1.free hp2) upd_same ((dqa_rev a1).mv (vw_add_same g1.ok hp2)) q
theorem qf_revL {K' : PySem.W.Frag} (h : QE X B m0 e te pe) (hK : X.K = K' := by rfl) : QF X B m0 (.Subscript e (.Slice none none (some (.UnaryOp .USub (.Constant (.int 1) k p1) p2)) p3) pos) (tRevL K' te) (pRevL pe) := by
  subst hK
  exact ⟨pe_revL h.p, sf_revL (b := bs X B m0) h.s⟩
def revK (P : List PyData → Prop) : D → Prop := fun d => ∃ a, d = .py (.list a) ∧ P a.reverse
theorem w_revL {env : PEnv} {P : List PyData → Prop} (h : pe env (revK P)) : pRevL pe env P := h
theorem w_revk {x : D} {a : List PyData} {P : List PyData → Prop} (hx : x = .py (.list a)) (h : P a.reverse) : revK P x := ⟨a, hx, h⟩
/-- xs.insert(n, e) -/
abbrev rIns : V → List V → Hp → VK → Prop := fun x vs H Q => ∃ (l : Addr) (xs : List V) (i : Int) (y : V), x = .ref l ∧ vs = [.int i, y] ∧ H l = some (.lst xs) ∧ xs.length < sizeLine ∧ 0 ≤ i ∧ i < 2 ^ 63 ∧ Q .non (upd H l (.lst (xs.take i.toNat ++ [y] ++ xs.drop i.toNat)))
def pIns (i : Nat) (pj pe : PTE) : PTS := fun Pn env => ∃ ds, env[i]? = some (.own ds) ∧ ds.length ≤ 1000 ∧ pj env fun d0 => ∃ n : Nat, d0 = .py (.int (n : Int)) ∧ n ≤ 1000 ∧ pe env fun d => ∃ p, d = .py p ∧ Pn.nx (env.set i (.own (ds.take n ++ [p] ++ ds.drop n)))
theorem ss_ins (hj : SE b tj pj) (h : SE b te pe) : SS b (tDrop (tBM b.K "list" rIns (tVar i) (tCons tj (tCons te tNil)))) (pIns i pj pe) := fun V W σ env H Dn Pn hR hV hE hp => by
  obtain ⟨ds, e, hl, q⟩ := hp
  obtain ⟨a, vs, ha, hs, hx, hv, da⟩ := hR.ownAt e
  have oa := (hR.own i a ha).2.1
  refine ⟨.ref a, hs, .inl ⟨rfl, _, SqL.of hv⟩, ?_⟩
  refine hj W σ env H _ _ hR q fun v0 d0 H0 g0 r0 q0 => ?_
  obtain ⟨n, rfl, hn, q0⟩ := q0
  cases r0.dp
  refine h W σ env H0 _ _ (hR.go g0) q0 fun v d H1 g1 r1 q1 => ?_
  obtain ⟨p, rfl, q1⟩ := q1
  have g := g0.trans g1
  have r := hR.go g
  have da2 := da.mv g.vw
  obtain ⟨r2, ev⟩ := r.mut (vs := vs.take ((n : Int)).toNat ++ [v] ++ vs.drop ((n : Int)).toNat) (ds := ds.take n ++ [p] ++ ds.drop n) ha hs hx (by rw [Int.toNat_natCast]; exact dqa_app (dqa_app (dqa_take n da2) (.cons r1.dp .nil)) (dqa_drop n da2))
  exact ⟨a, vs, n, v, rfl, rfl, g.at oa hv, small1000 (by rw [dqa_len da]; exact hl), by omega, by omega, hE.nx W _ _ _ r2 (by rw [ev]; exact hV.trans g.vw) q1⟩
theorem qs_ins (i : Nat) (hN : X.N[i]? = some x := by rfl) (hv : Vis X.env.scope x := by first | exact .inl rfl | exact .inr (.inl rfl) | exact .inr (.inr rfl) | assumption) (hj : QE X B m0 c tj pj) (he : QE X B m0 e te pe) (hd : (x == ("__debug__" : Str)) = false := by decide) (hcd : (x == ("__classdict__" : Str)) = false := by decide)
    (hbase : attributeBase (.Name x pos') "insert" X.env (eval (.Name x pos') X.env) = eval (.Name x pos') X.env := by rfl)
    (hfew : ((backTo cpos (starEach [c, e] X.env)).all (fun x => !x.1) && (backToKw cpos (keywordEach [] X.env)).all (fun x => x.1.isSome) && decide ([c, e].length + ([] : List Keyword).length + (if ([] : List Keyword).isEmpty then 0 else 1) < 30)) = true := by rfl)
    (hline : (apos.endLine == cpos.line) = true := by rfl) (hs : starEach [c, e] X.env = (false, eval c X.env) :: starEach [e] X.env := by rfl) (hs2 : starEach [e] X.env = (false, eval e X.env) :: starEach [] X.env := by rfl) (hplain : (backTo cpos (starEach [e] X.env)).any (·.1) = false := by rfl)
    (hsw : swapsWith (.Call (.Attribute (.Name x pos') "insert" apos) [c, e] [] cpos) none pos.line X.env = pure false := by rfl) :
    QS X B m0 (.Expr (.Call (.Attribute (.Name x pos') "insert" apos) [c, e] [] cpos) pos) (tDrop (tBM X.K "list" rIns (tVar i) (tCons tj (tCons te tNil)))) (pIns i pj pe) :=
  ⟨ps_expr (pe_bm PySem.F.plainAttrs_list PySem.F.slot_list_insert PySem.F.type_list_insert mt_insert (pe_var hN hv hd hcd) (pa_cons hj.p (pa_cons he.p pa_nil hs2) hs) hbase hfew hline hs hplain) hsw, ss_ins (b := bs X B m0) hj.s he.s⟩
def insK (i : Nat) (ds : List PyData) (pe : PTE) (Pn : PEn) (env : PEnv) : D → Prop := fun d0 => ∃ n : Nat, d0 = .py (.int (n : Int)) ∧ n ≤ 1000 ∧ pe env fun d => ∃ p, d = .py p ∧ Pn.nx (env.set i (.own (ds.take n ++ [p] ++ ds.drop n)))
def insK2 (i : Nat) (ds : List PyData) (n : Nat) (Pn : PEn) (env : PEnv) : D → Prop := fun d => ∃ p, d = .py p ∧ Pn.nx (env.set i (.own (ds.take n ++ [p] ++ ds.drop n)))
theorem w_ins {env : PEnv} {Pn : PEn} {ds : List PyData} (e : env[i]? = some (.own ds)) (hl : ds.length ≤ 1000) (h : pj env (insK i ds pe Pn env)) : pIns i pj pe Pn env := ⟨ds, e, hl, h⟩
theorem w_insk {env : PEnv} {Pn : PEn} {ds : List PyData} {n : Nat} (hn : n ≤ 1000) (h : pe env (insK2 i ds n Pn env)) : insK i ds pe Pn env (.py (.int (n : Int))) := ⟨n, rfl, hn, h⟩
theorem w_insk2 {env : PEnv} {Pn : PEn} {ds : List PyData} {n : Nat} {p : PyData} (h : Pn.nx (env.set i (.own (ds.take n ++ [p] ++ ds.drop n)))) : insK2 i ds n Pn env (.py p) := ⟨p, rfl, h⟩
end
end VP

/-! VQ0: promises, and what both sides weigh -/
namespace VP
open PySem PySem.Spec PyProof.Rows L2 VB VZ VC RT
def psLine : PSp := fun ds P _ => ∃ n : Nat, ds = [.deck, .py (.int (n : Int))] ∧ 1 ≤ n ∧ n ≤ 6 ∧ ∀ ns : List Int, ns.length = n → (∀ x ∈ ns, 0 ≤ x ∧ x ≤ 5) → 0 < ns.sum → P (.py (lnD ns))
def psBy : PSp := fun ds P _ => ∃ ns : List Int, ds = [.deck, .py (lnD ns)] ∧ ns.length ≤ 6 ∧ (∀ x ∈ ns, Bd 2000 x) ∧ ∀ k, 0 < k → k < 2 ^ 30 → P (.py (lnD (ns.map (· * k))))
theorem eraseD_perm : ∀ {l : List PyData} {k : Nat} (h : k < l.length), (l[k] :: l.eraseIdx k).Perm l
  | x :: r, 0, _ => .refl _
  | x :: r, k + 1, h => by
    have h' : k < r.length := Nat.lt_of_succ_lt_succ h
    show (r[k] :: x :: r.eraseIdx k).Perm (x :: r)
    exact (List.Perm.swap x r[k] _).trans ((eraseD_perm h').cons x)
def psChain : PSp := fun ds P _ => ∃ n k : Nat, ds = [.deck, .py (.int (n : Int)), .py (.int (k : Int))] ∧ 1 ≤ n ∧ n ≤ 6 ∧ 1 ≤ k ∧ k ≤ 5 ∧ ∀ c, ChOk 3 n k c → P (.py (chD c))
theorem lin3 {n : Nat} {ns : List Int} (hl : ns.length = n) (hb : ∀ x ∈ ns, 0 ≤ x ∧ x ≤ 5) (hs : 0 < ns.sum) : Lin 3 n ns := ⟨hl, fun x hx => ⟨(hb x hx).1, by show x.natAbs < 8; have := hb x hx; omega⟩, hs⟩

theorem head_of {ls : List (List Int)} {n : Nat} (h : ls.length = n) (n1 : 1 ≤ n) : ∃ l0, ls[0]? = some l0 ∧ ls.headD [] = l0 ∧ l0 ∈ ls := by
  cases ls with
  | nil => simp at h; omega
  | cons x y => exact ⟨x, rfl, rfl, by simp⟩

theorem mtx_shp {b n k : Nat} {c : Ch} (h : ChOk b n k c) : Shp n k c := ⟨h.st.len, h.sp.len, fun l hl => (h.sp.lin l hl).len, h.tl.len, fun l hl => (h.tl.lin l hl).len⟩
theorem mtx_sz {b n k : Nat} {c : Ch} (h : ChOk b n k c) : Sz b c := ⟨fun x hx => (h.st.bd x hx).2, fun l hl x hx => ((h.sp.lin l hl).bd x hx).2, fun l hl x hx => ((h.tl.lin l hl).bd x hx).2⟩
def psTold : PSp := fun ds P _ => ∃ c b n k z L, ds = [.py (chD c), .py (.str z)] ∧ ChOk b n k c ∧ VwOk c.sg z L ∧ P (.py (.list ((ovs c.sg z).map fun o => lD (tlO c o))))
def psTSums : PSp := fun ds P _ => ∃ c b n k z L, ds = [.py (chD c), .py (.str z)] ∧ ChOk b n k c ∧ VwOk c.sg z L ∧ P (.py (.list (((ovs c.sg z).map (tlS (c.tl.headD []).sum)).map .int)))
def psMet : PSp := fun ds P _ => ∃ x y ns ms a b, ds = [.py x, .py y] ∧ isInts x ns ∧ isInts y ms ∧ ns.length ≤ 1000 ∧ (∀ z ∈ ns, Bd a z) ∧ (∀ z ∈ ms, Bd b z) ∧ a + b ≤ 900000 ∧ P (.py (lD (metI ns ms)))
def psGone : PSp := fun ds P _ => ∃ x ns ls n a b, ds = [.py x, .py (mtD ls)] ∧ isInts x ns ∧ ns.length = n ∧ ls.length = n ∧ n ≤ 6 ∧ (∀ l ∈ ls, l.length = n) ∧ (∀ z ∈ ns, Bd a z) ∧ (∀ l ∈ ls, ∀ z ∈ l, Bd b z) ∧ a + b ≤ 900000 ∧ P (.py (lD (goneL ns ls n)))
def psAhead : PSp := fun ds P _ => ∃ c b n k z L, ds = [.py (chD c), .py (.str z)] ∧ ChOk b n k c ∧ VwOk c.sg z L ∧ b ≤ 2000 ∧ 1 ≤ b ∧ P (.py (.list ((aheadF c n (ovs c.sg z)).map lD)))
def psSumsA : PSp := fun ds P _ => ∃ c b n k z L, ds = [.py (chD c), .py (.str z)] ∧ ChOk b n k c ∧ VwOk c.sg z L ∧ b ≤ 2000 ∧ P (.py (lD (sumsF c.st.sum (c.sp.headD []).sum (c.tl.headD []).sum (ovs c.sg z)).2))
def psWhole : PSp := fun ds P _ => ∃ c b n k z L, ds = [.py (chD c), .py (.str z)] ∧ ChOk b n k c ∧ VwOk c.sg z L ∧ b ≤ 2000 ∧ P (.py (.int (underR c.st.sum (c.sp.headD []).sum (c.tl.headD []).sum (ovs c.sg z).reverse)))

theorem getD_of {α : Type} {l : List α} {i : Nat} {d a : α} (h : l[i]? = some a) : l.getD i d = a := by rw [List.getD_eq_getElem?_getD, h]; rfl
theorem row_of {b r m : Nat} {ls : List (List Int)} (h : Mtx b r m ls) {u : Nat} (hu : u < r) : ∃ l, ls[u]? = some l ∧ ls.getD u [] = l ∧ Lin b m l := by
  have : u < ls.length := by rw [h.len]; exact hu
  exact ⟨_, List.getElem?_eq_getElem this, getD_of (List.getElem?_eq_getElem this), h.lin _ (List.getElem_mem this)⟩
/-- what a course's chance is a part of -/
def belowR (A0 : Int) (A1 A2 : Nat → Int) : List (Option Nat) → List Nat → Int
  | o :: [], u :: [] => A0 * (if o = none then 1 else A2 u)
  | o :: v, u :: s :: c => belowR A0 A1 A2 v (s :: c) * (A1 s * (if o = none then 1 else A2 u))
  | _, _ => 1
theorem one_bd {b : Nat} (h : 1 ≤ b) : Bd b 1 := by
  show 1 < 2 ^ b
  exact Nat.one_lt_two_pow (by omega)
theorem wholeR_bd {st : Nat → Int} {sp : Nat → Nat → Int} {tl : Nat → Option Nat → Int} {b : Nat} (h0 : ∀ u, Bd b (st u)) (h1 : ∀ s u, Bd b (sp s u)) (h2 : ∀ u o, Bd b (tl u o)) : ∀ (v : List (Option Nat)) (c : List Nat), Bd (2 * b * v.length + 1) (wholeR st sp tl v c)
  | [], _ => by unfold wholeR; exact one_bd (by omega)
  | [o], [] => by unfold wholeR; exact one_bd (by omega)
  | [o], [u] => ((h0 u).mul (h2 u o)).mono (by simp; omega)
  | o :: o2 :: v, [] => by unfold wholeR; exact one_bd (by omega)
  | o :: o2 :: v, [u] => by unfold wholeR; exact one_bd (by omega)
  | [o], u :: s :: c => by
    show Bd _ (wholeR st sp tl [] (s :: c) * (sp s u * tl u o))
    exact ((wholeR_bd h0 h1 h2 [] (s :: c)).mul ((h1 s u).mul (h2 u o))).mono (by simp; omega)
  | o :: o2 :: v, u :: s :: c => by
    show Bd _ (wholeR st sp tl (o2 :: v) (s :: c) * (sp s u * tl u o))
    refine ((wholeR_bd h0 h1 h2 (o2 :: v) (s :: c)).mul ((h1 s u).mul (h2 u o))).mono ?_
    have e : 2 * b * (o :: o2 :: v).length = 2 * b * (o2 :: v).length + 2 * b := by rw [List.length_cons]; exact Nat.mul_succ _ _
    omega
theorem if_bd {b : Nat} {A2 : Nat → Int} {o : Option Nat} {u : Nat} (hb : 1 ≤ b) (h : Bd b (A2 u)) : Bd b (if o = none then 1 else A2 u) := by
  split
  · exact one_bd hb
  · exact h
theorem belowR_bd {A0 : Int} {A1 A2 : Nat → Int} {b : Nat} (hb : 1 ≤ b) (h0 : Bd b A0) (h1 : ∀ s, Bd b (A1 s)) (h2 : ∀ u, Bd b (A2 u)) : ∀ (v : List (Option Nat)) (c : List Nat), Bd (2 * b * v.length + 1) (belowR A0 A1 A2 v c)
  | [], _ => by unfold belowR; exact one_bd (by omega)
  | [o], [] => by unfold belowR; exact one_bd (by omega)
  | [o], [u] => (h0.mul (if_bd hb (h2 u))).mono (by simp; omega)
  | o :: o2 :: v, [] => by unfold belowR; exact one_bd (by omega)
  | o :: o2 :: v, [u] => by unfold belowR; exact one_bd (by omega)
  | [o], u :: s :: c => by
    show Bd _ (belowR A0 A1 A2 [] (s :: c) * (A1 s * (if o = none then 1 else A2 u)))
    exact ((belowR_bd hb h0 h1 h2 [] (s :: c)).mul ((h1 s).mul (if_bd hb (h2 u)))).mono (by simp; omega)
  | o :: o2 :: v, u :: s :: c => by
    show Bd _ (belowR A0 A1 A2 (o2 :: v) (s :: c) * (A1 s * (if o = none then 1 else A2 u)))
    refine ((belowR_bd hb h0 h1 h2 (o2 :: v) (s :: c)).mul ((h1 s).mul (if_bd hb (h2 u)))).mono ?_
    have e : 2 * b * (o :: o2 :: v).length = 2 * b * (o2 :: v).length + 2 * b := by rw [List.length_cons]; exact Nat.mul_succ _ _
    omega
def usD (us : List Nat) : PyData := .tuple (us.map fun (u : Nat) => PyData.int (u : Int))
theorem frD_one : frD 1 1 = .tuple [.int 1, .int 1] := by
  have a : lowA 1 1 = 1 := by decide +kernel
  have b : lowB 1 1 = 1 := by decide +kernel
  unfold frD
  rw [a, b]
def sSp (c : Ch) (s : Nat) : Int := (c.sp.getD s []).sum
def sTl (c : Ch) (s : Nat) : Int := (c.tl.getD s []).sum
def chW (c : Ch) (os : List (Option Nat)) (us : List Nat) : Int := wholeR (fSt c) (fSp c) (fTl c) os.reverse us.reverse
def chB (c : Ch) (os : List (Option Nat)) (us : List Nat) : Int := belowR c.st.sum (sSp c) (sTl c) os.reverse us.reverse
def lnAt (c : Ch) (us : List Nat) : List Int := match us.getLast? with
  | none => c.st
  | some s => c.sp.getD s []
theorem chW_snoc (c : Ch) (o : Option Nat) (u : Nat) : ∀ (os : List (Option Nat)) (us : List Nat), os.length = us.length → chW c (os ++ [o]) (us ++ [u]) = chW c os us * ((lnAt c us).getD u 0 * fTl c u o) := by
  intro os us h
  unfold chW
  rw [List.reverse_append, List.reverse_append]
  show wholeR _ _ _ (o :: os.reverse) (u :: us.reverse) = _
  cases e : us.reverse with
  | nil =>
    have e1 : us = [] := List.reverse_eq_nil_iff.mp e
    subst e1
    have e2 : os = [] := List.length_eq_zero_iff.mp h
    subst e2
    show fSt c u * fTl c u o = 1 * (c.st.getD u 0 * fTl c u o)
    rw [Int.one_mul]
    rfl
  | cons s r =>
    have eu : us = r.reverse ++ [s] := by rw [← List.reverse_reverse us, e, List.reverse_cons]
    have el : us.getLast? = some s := by rw [eu, List.getLast?_append]; rfl
    cases e2 : os.reverse with
    | nil =>
      have : os.length = 0 := by rw [← List.length_reverse, e2]; rfl
      have : us.length = r.length + 1 := by rw [← List.length_reverse, e]; rfl
      omega
    | cons o2 v =>
      show wholeR _ _ _ (o2 :: v) (s :: r) * (fSp c s u * fTl c u o) = _
      unfold lnAt
      rw [el]
      rfl
theorem chB_snoc (c : Ch) (o : Option Nat) (u : Nat) : ∀ (os : List (Option Nat)) (us : List Nat), os.length = us.length → chB c (os ++ [o]) (us ++ [u]) = chB c os us * ((lnAt c us).sum * (if o = none then 1 else sTl c u)) := by
  intro os us h
  unfold chB
  rw [List.reverse_append, List.reverse_append]
  show belowR _ _ _ (o :: os.reverse) (u :: us.reverse) = _
  cases e : us.reverse with
  | nil =>
    have e1 : us = [] := List.reverse_eq_nil_iff.mp e
    subst e1
    have e2 : os = [] := List.length_eq_zero_iff.mp h
    subst e2
    show c.st.sum * _ = 1 * (c.st.sum * _)
    rw [Int.one_mul]
  | cons s r =>
    have eu : us = r.reverse ++ [s] := by rw [← List.reverse_reverse us, e, List.reverse_cons]
    have el : us.getLast? = some s := by rw [eu, List.getLast?_append]; rfl
    cases e2 : os.reverse with
    | nil =>
      have : os.length = 0 := by rw [← List.length_reverse, e2]; rfl
      have : us.length = r.length + 1 := by rw [← List.length_reverse, e]; rfl
      omega
    | cons o2 v =>
      show belowR _ _ _ (o2 :: v) (s :: r) * (sSp c s * _) = _
      unfold lnAt
      rw [el]
      rfl
def chN (c : Ch) (n : Nat) (os : List (Option Nat)) : Int := if os = [] then 1 else sumN n (partsR (fSt c) (fSp c) (fTl c) n os.reverse)
def chU (c : Ch) (os : List (Option Nat)) : Int := underR c.st.sum (c.sp.headD []).sum (c.tl.headD []).sum os.reverse
def psCourse : PSp := fun ds P _ => ∃ c b n k z L us, ds = [.py (chD c), .py (.str z), .py (usD us)] ∧ ChOk b n k c ∧ VwOk c.sg z L ∧ b ≤ 33 ∧ us.length = L ∧ (∀ u ∈ us, u < n) ∧ P (.py (frD (chW c (ovs c.sg z) us) (chB c (ovs c.sg z) us)))
def psChance : PSp := fun ds P _ => ∃ c b n k z L, ds = [.py (chD c), .py (.str z)] ∧ ChOk b n k c ∧ VwOk c.sg z L ∧ b ≤ 33 ∧ Small (c.sp.map plL) ∧ Small (c.tl.map plL) ∧ P (.py (frD (chN (evC c) n (ovs c.sg z)) (chU (evC c) (ovs c.sg z))))
theorem evC_ok {b n k : Nat} {c : Ch} (h : ChOk b n k c) (s1 : Small (c.sp.map plL)) (s2 : Small (c.tl.map plL)) : ChOk (b + 60) n k (evC c) := by
  have key : ∀ {r m : Nat} {ls : List (List Int)}, Mtx b r m ls → r ≤ 6 → Small ls → Mtx (b + 60) r m (evM ls) := fun {r m ls} hm r6 sm => by
    obtain ⟨a1, a2, _, a4⟩ := lcmF_props ls 1 sm (by decide)
    have p6 : ∀ k, k < 7 → (512 : Int) ^ k ≤ 512 ^ 6 := by decide
    have p := p6 ls.length (by rw [hm.len]; omega)
    have p2 : (512 : Int) ^ 6 < 2 ^ 60 := by decide
    refine ⟨by unfold evM; rw [List.length_map]; exact hm.len, fun l hl => ?_⟩
    obtain ⟨l0, h0, rfl⟩ := List.mem_map.mp hl
    obtain ⟨q0, q1⟩ := sm l0 h0
    have L0 := hm.lin l0 h0
    have w0 := fdiv_le (x := lcmF 1 ls) (g := l0.sum) (by omega) q0 (a4 l0 h0)
    refine ⟨by rw [evL_len]; exact L0.len, fun x hx => ?_, by rw [evL_sum (a4 l0 h0)]; exact a1⟩
    obtain ⟨y, hy, rfl⟩ := List.mem_map.mp hx
    obtain ⟨y0, yb⟩ := L0.bd y hy
    exact ⟨Int.mul_nonneg y0 w0.1, yb.mul (bd_pos w0.1 (by have := w0.2; omega))⟩
  exact ⟨h.n1, h.n6, h.k1, h.k5, h.sg, (plL_lin h.st).mono (by omega), key (plL_mtx h.sp) h.n6 s1, key (plL_mtx h.tl) h.n6 s2⟩
theorem sum_range {n : Nat} {f : Nat → Int} : ((List.range n).map f).sum = sumN n f := rfl
theorem chB_bd {b n k : Nat} {c : Ch} (hc : ChOk b n k c) (b2 : b ≤ 33) {os : List (Option Nat)} {us : List Nat} (l : os.length ≤ 41) : Bd 4000 (chB c os us) := by
  have n6 := hc.n6
  have k5 := hc.k5
  have zero : Bd 36 ([] : List Int).sum := by show (0 : Int).natAbs < 2 ^ 36; decide
  refine (belowR_bd (b := 36) (by omega) ((lin_sum hc.st n6).mono (by omega)) (fun s => ?_) (fun s => ?_) _ _).mono ?_
  · by_cases hs : s < n
    · obtain ⟨l, _, el, hl⟩ := row_of hc.sp hs
      show Bd 36 (c.sp.getD s []).sum
      rw [el]
      exact (lin_sum hl n6).mono (by omega)
    · show Bd 36 (c.sp.getD s []).sum
      rw [List.getD_eq_getElem?_getD, List.getElem?_eq_none_iff.mpr (by rw [hc.sp.len]; omega)]
      exact zero
  · by_cases hs : s < n
    · obtain ⟨l, _, el, hl⟩ := row_of hc.tl hs
      show Bd 36 (c.tl.getD s []).sum
      rw [el]
      exact (lin_sum hl (by omega)).mono (by omega)
    · show Bd 36 (c.tl.getD s []).sum
      rw [List.getD_eq_getElem?_getD, List.getElem?_eq_none_iff.mpr (by rw [hc.tl.len]; omega)]
      exact zero
  · rw [List.length_reverse]
    omega
theorem belowR_pos {A0 : Int} {A1 A2 : Nat → Int} {n : Nat} (h0 : 0 < A0) (h1 : ∀ s, s < n → 0 < A1 s) (h2 : ∀ u, u < n → 0 < A2 u) : ∀ (v : List (Option Nat)) (c : List Nat), (∀ u ∈ c, u < n) → 0 < belowR A0 A1 A2 v c
  | [], _, _ => by unfold belowR; decide
  | [o], [], _ => by unfold belowR; decide
  | [o], [u], h => by
    have := h2 u (h u (by simp))
    show 0 < A0 * (if o = none then 1 else A2 u)
    exact Int.mul_pos h0 (by split <;> omega)
  | o :: o2 :: v, [], _ => by unfold belowR; decide
  | o :: o2 :: v, [u], _ => by unfold belowR; decide
  | [o], u :: s :: c, h => by
    have a := h2 u (h u (by simp))
    have b := h1 s (h s (by simp))
    show 0 < belowR A0 A1 A2 [] (s :: c) * (A1 s * (if o = none then 1 else A2 u))
    exact Int.mul_pos (belowR_pos h0 h1 h2 [] (s :: c) fun x hx => h x (by simp [hx])) (Int.mul_pos b (by split <;> omega))
  | o :: o2 :: v, u :: s :: c, h => by
    have a := h2 u (h u (by simp))
    have b := h1 s (h s (by simp))
    show 0 < belowR A0 A1 A2 (o2 :: v) (s :: c) * (A1 s * (if o = none then 1 else A2 u))
    exact Int.mul_pos (belowR_pos h0 h1 h2 (o2 :: v) (s :: c) fun x hx => h x (by simp [hx])) (Int.mul_pos b (by split <;> omega))
theorem chB_pos {b n k : Nat} {c : Ch} (hc : ChOk b n k c) (os : List (Option Nat)) (us : List Nat) (hl : os.length = us.length) (hu : ∀ u ∈ us, u < n) : 0 < chB c os us := by
  refine belowR_pos (n := n) hc.st.sum (fun s hs => ?_) (fun s hs => ?_) _ _ fun u h => hu u (List.mem_reverse.mp h)
  · obtain ⟨l, _, el, hl⟩ := row_of hc.sp hs
    show 0 < (c.sp.getD s []).sum
    rw [el]
    exact hl.sum
  · obtain ⟨l, _, el, hl⟩ := row_of hc.tl hs
    show 0 < (c.tl.getD s []).sum
    rw [el]
    exact hl.sum

/-- from the end -/
def waysR (sp : Nat → Nat → Int) (tl : Nat → Option Nat → Int) (n : Nat) : List (Option Nat) → Nat → Int
  | [], _ => 1
  | o :: v, s => sumN n fun u => sp s u * (tl u o * waysR sp tl n v u)
theorem parts_snoc_ways (st : Nat → Int) (sp : Nat → Nat → Int) (tl : Nat → Option Nat → Int) (n : Nat) : ∀ (v : List (Option Nat)) (r : List (Option Nat)) (o : Option Nat),
    sumN n (fun u => partsR st sp tl n (o :: r) u * waysR sp tl n v u) = sumN n (partsR st sp tl n (v.reverse ++ o :: r))
  | [], r, o => by
    show sumN n (fun u => partsR st sp tl n (o :: r) u * 1) = _
    unfold sumN
    exact congrArg List.sum (List.map_congr_left fun u _ => Int.mul_one _)
  | o2 :: v, r, o => by
    have ih := parts_snoc_ways st sp tl n v (o :: r) o2
    rw [List.reverse_cons, List.append_assoc]
    show _ = sumN n (partsR st sp tl n (v.reverse ++ (o2 :: o :: r)))
    rw [← ih]
    unfold sumN
    have e1 : ∀ s ∈ List.range n, partsR st sp tl n (o :: r) s * waysR sp tl n (o2 :: v) s = ((List.range n).map fun u => partsR st sp tl n (o :: r) s * sp s u * (tl u o2 * waysR sp tl n v u)).sum := by
      intro s _
      show _ * sumN n _ = _
      unfold sumN
      rw [← sum_map_mul]
      exact congrArg List.sum (List.map_congr_left fun u _ => (Int.mul_assoc _ _ _).symm)
    rw [List.map_congr_left e1, sum_swap]
    refine congrArg List.sum (List.map_congr_left fun u _ => ?_)
    rw [sum_map_mulR, ← Int.mul_assoc]
    rfl
theorem waysR_bd {sp : Nat → Nat → Int} {tl : Nat → Option Nat → Int} {n b : Nat} (hn : n ≤ 8) (h1 : ∀ s u, Bd b (sp s u)) (h2 : ∀ u o, Bd b (tl u o)) : ∀ (v : List (Option Nat)) (s : Nat), Bd ((2 * b + 3) * v.length + 1) (waysR sp tl n v s)
  | [], s => one_bd (by simp)
  | o :: v, s => by
    show Bd _ (sumN n fun u => sp s u * (tl u o * waysR sp tl n v u))
    have e : (2 * b + 3) * (o :: v).length = (2 * b + 3) * v.length + (2 * b + 3) := by rw [List.length_cons]; exact Nat.mul_succ _ _
    refine Bd.mono (Bd.sum8 (k := b + (b + ((2 * b + 3) * v.length + 1))) (by simpa using hn) fun x hx => ?_) (by omega)
    obtain ⟨u, _, rfl⟩ := List.mem_map.mp hx
    exact (h1 s u).mul ((h2 u o).mul (waysR_bd hn h1 h2 v u))
def wyL (c : Ch) (n : Nat) (v : List (Option Nat)) : List Int := (List.range n).map (waysR (fSp c) (fTl c) n v)
theorem wy_step {n k : Nat} {c : Ch} (h : Shp n k c) (o : Option Nat) (v : List (Option Nat)) : (c.sp.map fun l => (metI (metI (wyL c n v) (tlO c o)) l).sum) = wyL c n (o :: v) := by
  refine List.ext_getElem (by simp [wyL, h.sp]) fun i h1 h2 => ?_
  have hi : i < c.sp.length := by simpa using h1
  have hin : i < n := h.sp ▸ hi
  rw [List.getElem_map]
  have e2 : (wyL c n (o :: v))[i] = waysR (fSp c) (fTl c) n (o :: v) i := by simp [wyL]
  have er : ∀ u, fSp c i u = (c.sp[i]).getD u 0 := fun u => by
    unfold fSp
    rw [getD_of (List.getElem?_eq_getElem hi)]
  have lr := h.spl _ (List.getElem_mem hi)
  rw [e2]
  generalize c.sp[i] = row at er lr ⊢
  have e3 : metI (wyL c n v) (tlO c o) = (List.range n).map fun u => waysR (fSp c) (fTl c) n v u * fTl c u o := by
    rw [tlO_fun h o]
    exact zip_fun
  have e4 : metI ((List.range n).map fun u => waysR (fSp c) (fTl c) n v u * fTl c u o) row = (List.range n).map fun u => waysR (fSp c) (fTl c) n v u * fTl c u o * row.getD u 0 := by
    conv => lhs; rw [list_fun lr]
    exact zip_fun
  rw [e3, e4]
  show sumN n _ = sumN n _
  unfold sumN
  refine congrArg List.sum (List.map_congr_left fun u _ => ?_)
  rw [er u, Int.mul_comm, Int.mul_comm (waysR _ _ _ _ _)]
theorem fSp_bd {n k b : Nat} {c : Ch} (hc : ChOk b n k c) (s u : Nat) : Bd b (fSp c s u) := by
  refine getD_bd ?_ u
  intro x hx
  by_cases hs : s < n
  · obtain ⟨l, _, el, hl⟩ := row_of hc.sp hs
    rw [el] at hx
    exact (hl.bd x hx).2
  · rw [List.getD_eq_getElem?_getD, List.getElem?_eq_none_iff.mpr (by rw [hc.sp.len]; omega)] at hx
    cases hx
theorem fTl_bd {n k b : Nat} {c : Ch} (hc : ChOk b n k c) (b1 : 1 ≤ b) (u : Nat) (o : Option Nat) : Bd b (fTl c u o) := by
  cases o with
  | none => exact one_bd b1
  | some j =>
    refine getD_bd ?_ j
    intro x hx
    by_cases hs : u < n
    · obtain ⟨l, _, el, hl⟩ := row_of hc.tl hs
      rw [el] at hx
      exact (hl.bd x hx).2
    · rw [List.getD_eq_getElem?_getD, List.getElem?_eq_none_iff.mpr (by rw [hc.tl.len]; omega)] at hx
      cases hx
def psBehind : PSp := fun ds P _ => ∃ c b n k z L, ds = [.py (chD c), .py (.str z)] ∧ ChOk b n k c ∧ VwOk c.sg z L ∧ b ≤ 2000 ∧ 1 ≤ b ∧ P (.py (.list ((List.range L).map fun i => lD (wyL c n ((ovs c.sg z).drop (i + 1))))))
/-- what parts behind are parts of -/
def belS (A1 A2 : Int) : List (Option Nat) → Int
  | [] => 1
  | o :: v => belS A1 A2 v * tlS A2 o * A1
theorem belS_bd {A1 A2 : Int} {b : Nat} (hb : 1 ≤ b) (h1 : Bd b A1) (h2 : Bd b A2) : ∀ v : List (Option Nat), Bd (2 * b * v.length + 1) (belS A1 A2 v)
  | [] => one_bd (by simp)
  | o :: v => by
    have e : 2 * b * (o :: v).length = 2 * b * v.length + 2 * b := by rw [List.length_cons]; exact Nat.mul_succ _ _
    exact (((belS_bd hb h1 h2 v).mul (tlS_bd h2 hb o)).mul h1).mono (by omega)
theorem drop_back {α : Type} {os : List α} {L j : Nat} {o : α} (lo : os.length = L) (hi : os.reverse[j]? = some o) : os.drop (L - (j + 1)) = o :: os.drop (L - j) := by
  have lj : j < L := by
    have := (List.getElem?_eq_some_iff.mp hi).1
    rw [List.length_reverse, lo] at this
    exact this
  have hi2 : os[L - (j + 1)]? = some o := by
    rw [List.getElem?_reverse (by omega)] at hi
    rw [lo] at hi
    rw [← hi]
    congr 1
    omega
  have lt : L - (j + 1) < os.length := by omega
  rw [List.drop_eq_getElem_cons lt]
  have e1 : os[L - (j + 1)] = o := by
    have := List.getElem?_eq_getElem lt
    rw [hi2] at this
    exact (Option.some.inj this).symm
  rw [e1]
  congr 2
  omega
theorem rev_back {α : Type} (f : List α → PyData) {os : List α} {L : Nat} : ((List.range L).map fun i => f (os.drop (L - i))).reverse = (List.range L).map fun i => f (os.drop (i + 1)) := by
  refine List.ext_getElem (by simp) fun i h1 h2 => ?_
  have : i < L := by simpa using h2
  simp only [List.getElem_reverse, List.getElem_map, List.getElem_range, List.length_map, List.length_range]
  have q : L - (L - 1 - i) = i + 1 := by omega
  rw [q]
def psSumsB : PSp := fun ds P _ => ∃ c b n k z L, ds = [.py (chD c), .py (.str z)] ∧ ChOk b n k c ∧ VwOk c.sg z L ∧ b ≤ 2000 ∧ P (.py (.list ((List.range L).map fun i => .int (belS (c.sp.headD []).sum (c.tl.headD []).sum ((ovs c.sg z).drop (i + 1))))))
def psShared : PSp := fun ds P _ => ∃ (tb : List (List Int)) (sm : List Int), ds = [.py (.list (tb.map lD)), .py (lD sm)] ∧ tb.length ≤ 1000 ∧ (∀ l ∈ tb, l.length ≤ 1000) ∧ (∀ w ∈ sm, w ≠ 0 ∧ Bd 8000 w) ∧ P (.py (.tuple ((tb.zip sm).map fun p => .tuple (p.1.map fun x => frD x p.2))))

section
variable {c : Ch} {A1 A2 : Int}
def scKv (c : Ch) (A1 A2 : Int) : List (Key × PyData) := [(.inr "signs", .str c.sg), (.inr "start", lnD c.st), (.inr "steps", .list (c.sp.map lD)), (.inr "tells", .list (c.tl.map lD)), (.inr "sums", .list [.int c.st.sum, .int A1, .int A2])]
abbrev scaledD (c : Ch) (A1 A2 : Int) : D := .rcd (scKv c A1 A2)
theorem sc_signs : lkD (scKv c A1 A2) (.inr "signs") = some (.str c.sg) := by with_unfolding_all rfl
theorem sc_start : lkD (scKv c A1 A2) (.inr "start") = some (lnD c.st) := by with_unfolding_all rfl
theorem sc_steps : lkD (scKv c A1 A2) (.inr "steps") = some (.list (c.sp.map lD)) := by with_unfolding_all rfl
theorem sc_tells : lkD (scKv c A1 A2) (.inr "tells") = some (.list (c.tl.map lD)) := by with_unfolding_all rfl
theorem sc_sums : lkD (scKv c A1 A2) (.inr "sums") = some (.list [.int c.st.sum, .int A1, .int A2]) := by with_unfolding_all rfl
end
def lwC (c : Ch) : Ch := ⟨c.sg, c.st, evM c.sp, evM c.tl⟩
def psEven : PSp := fun ds P _ => ∃ ls b r n, ds = [.py (mtD ls)] ∧ Mtx b r n ls ∧ r ≤ 6 ∧ n ≤ 6 ∧ b ≤ 2000 ∧ Small ls ∧ P (.py (.tuple [.list ((evM ls).map lD), .int (lcmF 1 ls)]))
def psScaled : PSp := fun ds P _ => ∃ c b n k, ds = [.py (chD c)] ∧ ChOk b n k c ∧ b ≤ 2000 ∧ Small c.sp ∧ Small c.tl ∧ P (scaledD (lwC c) (lcmF 1 c.sp) (lcmF 1 c.tl))
def psUnder : PSp := fun ds P _ => ∃ c A1 A2 b z L, ds = [scaledD c A1 A2, .py (.str z)] ∧ VwOk c.sg z L ∧ b ≤ 2000 ∧ 1 ≤ b ∧ Bd b c.st.sum ∧ Bd b A1 ∧ Bd b A2 ∧ P (.py (.int (underR c.st.sum A1 A2 (ovs c.sg z).reverse)))
def psToldAt : PSp := fun ds P _ => ∃ c A1 A2 n k u a b, ds = [scaledD c A1 A2, .py (.int (u : Nat)), .py (sgD a)] ∧ Sgs k c.sg ∧ Mtx b n k c.tl ∧ u < n ∧ (a = 46 ∨ a ∈ c.sg.cps.toList) ∧ P (.py (.int (fTl c u (optS c.sg a))))
def psCWhole : PSp := fun ds P _ => ∃ c A1 A2 b n k z L us, ds = [scaledD c A1 A2, .py (.str z), .py (usD us)] ∧ ChOk b n k c ∧ VwOk c.sg z L ∧ b ≤ 2000 ∧ 1 ≤ b ∧ us.length = L ∧ (∀ u ∈ us, u < n) ∧ P (.py (.int (chW c (ovs c.sg z) us)))
def psCourses : PSp := fun ds P _ => ∃ n L : Nat, ds = [.py (.int (n : Int)), .py (.int (L : Int))] ∧ 1 ≤ n ∧ n ≤ 6 ∧ L ≤ 41 ∧ n ^ L ≤ 500 ∧ P (.py (.list ((courses n L).map usD)))
def psView : PSp := fun ds P _ => ∃ sg k L g, ds = [.deck, .py (.str sg), .py (.int (L : Nat)), .py (.bool g)] ∧ Sgs k sg ∧ 1 ≤ k ∧ k ≤ 5 ∧ L ≤ 41 ∧ ∀ z, VwOk sg z L → P (.py (.str z))
theorem lcm_dvd {w s : Int} (hw : 0 < w) (hs : 0 < s) : (w * s).fdiv (gcdI w s) = lcmI w s := by
  unfold gcdI lcmI
  have e := Nat.gcd_mul_lcm w.natAbs s.natAbs
  have g0 : 0 < Nat.gcd w.natAbs s.natAbs := Nat.gcd_pos_of_pos_left _ (by omega)
  have ew : (w.natAbs : Int) = w := Int.natAbs_of_nonneg (by omega)
  have es : (s.natAbs : Int) = s := Int.natAbs_of_nonneg (by omega)
  have e2 : w * s = (Nat.gcd w.natAbs s.natAbs : Int) * (Nat.lcm w.natAbs s.natAbs : Int) := by
    rw [← Int.natCast_mul, e, Int.natCast_mul, ew, es]
  rw [e2, Int.mul_fdiv_cancel_left _ (by omega)]

theorem courses_len (n : Nat) : ∀ (i : Nat), ∀ c ∈ courses n i, c.length = i
  | 0, c, h => by
    have : c ∈ [([] : List Nat)] := h
    rw [List.mem_singleton.mp this]
    rfl
  | i + 1, c, h => by
    obtain ⟨c', h1, h2⟩ := List.mem_flatMap.mp h
    obtain ⟨u, _, rfl⟩ := List.mem_map.mp h2
    rw [List.length_append, courses_len n i c' h1]
    rfl
theorem courses_lt (n : Nat) : ∀ (i : Nat), ∀ c ∈ courses n i, ∀ u ∈ c, u < n
  | 0, c, h => by
    have : c ∈ [([] : List Nat)] := h
    rw [List.mem_singleton.mp this]
    intro u hu
    cases hu
  | i + 1, c, h => by
    obtain ⟨c', h1, h2⟩ := List.mem_flatMap.mp h
    obtain ⟨u, hu, rfl⟩ := List.mem_map.mp h2
    intro x hx
    rcases List.mem_append.mp hx with hx | hx
    · exact courses_lt n i c' h1 x hx
    · rw [List.mem_singleton.mp hx]
      exact List.mem_range.mp hu
def undF (A0 A1 A2 : Int) (r : List (Option Nat)) : Int := if r = [] then A0 else underR A0 A1 A2 r
theorem undF_cons (A0 A1 A2 : Int) (o : Option Nat) : ∀ r : List (Option Nat), undF A0 A1 A2 (o :: r) = undF A0 A1 A2 r * (if r = [] then 1 else A1) * (if o = none then 1 else A2)
  | [] => by
    show A0 * _ = A0 * 1 * _
    rw [Int.mul_one]
  | o2 :: v => rfl
theorem undF_bd {A0 A1 A2 : Int} {b : Nat} (hb : 1 ≤ b) (h0 : Bd b A0) (h1 : Bd b A1) (h2 : Bd b A2) : ∀ r : List (Option Nat), Bd (2 * b * r.length + b) (undF A0 A1 A2 r)
  | [] => h0.mono (by simp)
  | o :: r => by
    rw [undF_cons]
    have e : 2 * b * (o :: r).length = 2 * b * r.length + 2 * b := by rw [List.length_cons]; exact Nat.mul_succ _ _
    refine (((undF_bd hb h0 h1 h2 r).mul (k := b) ?_).mul (k := b) ?_).mono (by omega)
    · split
      · exact one_bd hb
      · exact h1
    · split
      · exact one_bd hb
      · exact h2
/-! ### shares: two ways to weigh -/
def LCr (l l' : List Int) : Prop := ∀ u, Cr (l.getD u 0) l.sum (l'.getD u 0) l'.sum
theorem getD_map0 {f : Int → Int} (h0 : f 0 = 0) (l : List Int) (u : Nat) : (l.map f).getD u 0 = f (l.getD u 0) := by
  rw [List.getD_eq_getElem?_getD, List.getD_eq_getElem?_getD, List.getElem?_map]
  cases l[u]? with
  | none => exact h0.symm
  | some x => rfl
theorem LCr.refl (l : List Int) : LCr l l := fun _ => Cr.refl _ _
theorem LCr.symm {l l' : List Int} (h : LCr l l') : LCr l' l := fun u => (h u).symm
theorem LCr.trans {l m r : List Int} (h : LCr l m) (k : LCr m r) (hm : 0 < m.sum) : LCr l r := fun u => (h u).trans (k u) hm
theorem lcr_leq {a b : List Int} (h : LEq a b) : LCr a b := fun u => by
  obtain ⟨i, j, hi, hj, e⟩ := h
  have e1 : a.getD u 0 * i = b.getD u 0 * j := by
    have := congrArg (fun l : List Int => l.getD u 0) e
    rwa [getD_map0 (f := (· * i)) (Int.zero_mul i), getD_map0 (f := (· * j)) (Int.zero_mul j)] at this
  have e2 : a.sum * i = b.sum * j := by
    have := congrArg List.sum e
    rwa [sum_mul, sum_mul] at this
  unfold Cr
  have hij : i * j ≠ 0 := Int.mul_ne_zero (by omega) (by omega)
  refine Int.eq_of_mul_eq_mul_right hij ?_
  have r1 : a.getD u 0 * b.sum * (i * j) = (a.getD u 0 * i) * (b.sum * j) := by simp only [Int.mul_assoc, Int.mul_left_comm, Int.mul_comm]
  have r2 : b.getD u 0 * a.sum * (i * j) = (b.getD u 0 * j) * (a.sum * i) := by simp only [Int.mul_assoc, Int.mul_left_comm, Int.mul_comm]
  rw [r1, r2, e1, e2]
theorem lcr_pl (l : List Int) : LCr (plL l) l := fun u => by
  have e := plL_back (ns := l)
  have e1 : (plL l).getD u 0 * gcdL l = l.getD u 0 := by
    have := congrArg (fun l : List Int => l.getD u 0) e
    rwa [getD_map0 (f := (· * gcdL l)) (Int.zero_mul _)] at this
  have e2 : (plL l).sum * gcdL l = l.sum := by
    have := congrArg List.sum e
    rwa [sum_mul] at this
  unfold Cr
  rw [← e1, ← e2]
  simp only [Int.mul_assoc, Int.mul_left_comm, Int.mul_comm]
theorem lcr_ev {l : List Int} {w : Int} (h : l.sum ∣ w) : LCr (evL w l) l := fun u => by
  have e1 : (evL w l).getD u 0 = l.getD u 0 * w.fdiv l.sum := getD_map0 (f := (· * w.fdiv l.sum)) (Int.zero_mul _) l u
  unfold Cr
  rw [e1, evL_sum h, Int.mul_assoc, Int.fdiv_mul_cancel h]
structure RCr (n : Nat) (c c' : Ch) : Prop where
  st : LCr c.st c'.st
  sp : ∀ s, s < n → LCr (c.sp.getD s []) (c'.sp.getD s [])
  tl : ∀ s, s < n → LCr (c.tl.getD s []) (c'.tl.getD s [])
theorem wholeR_cr {n : Nat} {st st' : Nat → Int} {sp sp' : Nat → Nat → Int} {tl tl' : Nat → Option Nat → Int} {A0 B0 : Int} {A1 A2 B1 B2 : Nat → Int}
    (h0 : ∀ s, s < n → Cr (st s) A0 (st' s) B0) (h1 : ∀ s u, s < n → u < n → Cr (sp s u) (A1 s) (sp' s u) (B1 s)) (h2 : ∀ u o, u < n → Cr (tl u o) (if o = none then 1 else A2 u) (tl' u o) (if o = none then 1 else B2 u)) :
    ∀ (v : List (Option Nat)) (us : List Nat), (∀ u ∈ us, u < n) → Cr (wholeR st sp tl v us) (belowR A0 A1 A2 v us) (wholeR st' sp' tl' v us) (belowR B0 B1 B2 v us)
  | [], _, _ => by unfold wholeR belowR; exact .refl _ _
  | [o], [], _ => by unfold wholeR belowR; exact .refl _ _
  | [o], [u], h => (h0 u (h u (by simp))).mul (h2 u o (h u (by simp)))
  | o :: o2 :: v, [], _ => by unfold wholeR belowR; exact .refl _ _
  | o :: o2 :: v, [u], _ => by unfold wholeR belowR; exact .refl _ _
  | [o], u :: s :: c, h => (wholeR_cr h0 h1 h2 [] (s :: c) fun x hx => h x (by simp [hx])).mul ((h1 s u (h s (by simp)) (h u (by simp))).mul (h2 u o (h u (by simp))))
  | o :: o2 :: v, u :: s :: c, h => (wholeR_cr h0 h1 h2 (o2 :: v) (s :: c) fun x hx => h x (by simp [hx])).mul ((h1 s u (h s (by simp)) (h u (by simp))).mul (h2 u o (h u (by simp))))
theorem RCr.t {n : Nat} {c c' : Ch} (h : RCr n c c') (u : Nat) (o : Option Nat) (hu : u < n) : Cr (fTl c u o) (if o = none then 1 else sTl c u) (fTl c' u o) (if o = none then 1 else sTl c' u) := by
  cases o with
  | none => exact .refl _ _
  | some j =>
    rw [if_neg (by simp), if_neg (by simp)]
    exact h.tl u hu j
theorem RCr.course {n : Nat} {c c' : Ch} (h : RCr n c c') (os : List (Option Nat)) (us : List Nat) (hu : ∀ u ∈ us, u < n) : Cr (chW c os us) (chB c os us) (chW c' os us) (chB c' os us) :=
  wholeR_cr (fun s _ => h.st s) (fun s u hs _ => h.sp s hs u) (fun u o hu => h.t u o hu) _ _ fun u hx => hu u (List.mem_reverse.mp hx)
/-- lines of one sum -/
theorem belowR_even {n : Nat} {A0 a1 a2 : Int} {A1 A2 : Nat → Int} (h1 : ∀ s, s < n → A1 s = a1) (h2 : ∀ u, u < n → A2 u = a2) : ∀ (v : List (Option Nat)) (us : List Nat), v.length = us.length → (∀ u ∈ us, u < n) → belowR A0 A1 A2 v us = underR A0 a1 a2 v
  | [], [], _, _ => by unfold belowR underR; rfl
  | [o], [u], _, h => by
    show A0 * (if o = none then 1 else A2 u) = A0 * (if o = none then 1 else a2)
    rw [h2 u (h u (by simp))]
  | o :: o2 :: v, u :: s :: c, hl, h => by
    show belowR A0 A1 A2 (o2 :: v) (s :: c) * (A1 s * (if o = none then 1 else A2 u)) = underR A0 a1 a2 (o2 :: v) * a1 * (if o = none then 1 else a2)
    rw [h2 u (h u (by simp)), h1 s (h s (by simp)), belowR_even h1 h2 (o2 :: v) (s :: c) (by simpa using hl) fun x hx => h x (by simp [hx]), Int.mul_assoc]
theorem small_of {r n : Nat} {ls : List (List Int)} (h : Mtx 3 r n ls) (n6 : n ≤ 6) : Small ls := fun l hl => by
  have L := h.lin l hl
  refine ⟨L.sum, ?_⟩
  have := sum_le (B := 7) (ns := l) fun x hx => by
    obtain ⟨h0, h1⟩ := L.bd x hx
    have h1 : x.natAbs < 2 ^ 3 := h1
    omega
  rw [L.len] at this
  omega
theorem evM_row {b r n : Nat} {ls : List (List Int)} (h : Mtx b r n ls) (sm : Small ls) {s : Nat} (hs : s < r) : (evM ls).getD s [] = evL (lcmF 1 ls) (ls.getD s []) ∧ (ls.getD s []).sum ∣ lcmF 1 ls ∧ ((evM ls).getD s []).sum = lcmF 1 ls := by
  obtain ⟨l, e1, e2, _⟩ := row_of h hs
  have e3 : (evM ls).getD s [] = evL (lcmF 1 ls) l := getD_of (by unfold evM; rw [List.getElem?_map, e1]; rfl)
  have d := (lcmF_props ls 1 sm (by decide)).2.2.2 l (List.mem_of_getElem? e1)
  rw [e2, e3]
  exact ⟨rfl, d, evL_sum d⟩
theorem lw_cr {b n k : Nat} {c : Ch} (h : ChOk b n k c) (s1 : Small c.sp) (s2 : Small c.tl) : RCr n (lwC c) c where
  st := .refl _
  sp := fun s hs => by
    obtain ⟨e, d, _⟩ := evM_row h.sp s1 hs
    show LCr ((evM c.sp).getD s []) _
    rw [e]
    exact lcr_ev d
  tl := fun s hs => by
    obtain ⟨e, d, _⟩ := evM_row h.tl s2 hs
    show LCr ((evM c.tl).getD s []) _
    rw [e]
    exact lcr_ev d
theorem getD_pl {ls : List (List Int)} (s : Nat) : (ls.map plL).getD s [] = plL (ls.getD s []) := by
  rw [List.getD_eq_getElem?_getD, List.getD_eq_getElem?_getD, List.getElem?_map]
  cases ls[s]? with
  | none => rfl
  | some x => rfl
theorem ev_cr {b n k : Nat} {c : Ch} (h : ChOk b n k c) (s1 : Small (c.sp.map plL)) (s2 : Small (c.tl.map plL)) : RCr n (evC c) c where
  st := lcr_pl _
  sp := fun s hs => by
    obtain ⟨e, d, _⟩ := evM_row (plL_mtx h.sp) s1 hs
    obtain ⟨l, e1, e2, e3⟩ := row_of h.sp hs
    show LCr ((evM (c.sp.map plL)).getD s []) _
    rw [e]
    rw [getD_pl, e2] at d ⊢
    exact (lcr_ev d).trans (lcr_pl l) (plL_sum e3.sum)
  tl := fun s hs => by
    obtain ⟨e, d, _⟩ := evM_row (plL_mtx h.tl) s2 hs
    obtain ⟨l, e1, e2, e3⟩ := row_of h.tl hs
    show LCr ((evM (c.tl.map plL)).getD s []) _
    rw [e]
    rw [getD_pl, e2] at d ⊢
    exact (lcr_ev d).trans (lcr_pl l) (plL_sum e3.sum)
theorem RCr.trans {b n k : Nat} {c d e : Ch} (h : RCr n c d) (g : RCr n d e) (hd : ChOk b n k d) : RCr n c e where
  st := h.st.trans g.st hd.st.sum
  sp := fun s hs => by
    obtain ⟨l, e1, e2, e3⟩ := row_of hd.sp hs
    exact (h.sp s hs).trans (g.sp s hs) (by rw [e2]; exact e3.sum)
  tl := fun s hs => by
    obtain ⟨l, e1, e2, e3⟩ := row_of hd.tl hs
    exact (h.tl s hs).trans (g.tl s hs) (by rw [e2]; exact e3.sum)
theorem RCr.symm {n : Nat} {c d : Ch} (h : RCr n c d) : RCr n d c := ⟨h.st.symm, fun s hs => (h.sp s hs).symm, fun s hs => (h.tl s hs).symm⟩
/-- the sum over all courses -/
theorem sum_all (c : Ch) (n : Nat) (os : List (Option Nat)) : ((courses n os.length).map fun us => chW c os us).sum = chN c n os := by
  unfold chN
  by_cases z : os = []
  · subst z
    rw [if_pos rfl]
    rfl
  · rw [if_neg z]
    obtain ⟨o, r, e⟩ : ∃ o r, os.reverse = o :: r := by
      cases q : os.reverse with
      | nil => exact absurd (List.reverse_eq_nil_iff.mp q) z
      | cons o r => exact ⟨o, r, rfl⟩
    have el : os.length = r.length + 1 := by rw [← List.length_reverse, e]; rfl
    have := sum_courses (fSt c) (fSp c) (fTl c) n r o fun _ => 1
    unfold chW
    rw [e, el]
    simp only [Int.mul_one] at this
    exact this
theorem head_even {b n k : Nat} {ls : List (List Int)} (h : Mtx b n k ls) (n1 : 1 ≤ n) (sm : Small ls) : ((evM ls).headD []).sum = lcmF 1 ls := by
  have := (evM_row h sm (show 0 < n by omega)).2.2
  rw [← this]
  cases evM ls <;> rfl
/-- the chance, by both -/
theorem chance_cr {b b' n k k' : Nat} {c d : Ch} (hc : ChOk b n k c) (s1 : Small c.sp) (s2 : Small c.tl) (hd : ChOk b' n k' d) (s3 : Small d.sp) (s4 : Small d.tl) (h : RCr n (lwC c) (lwC d)) (os : List (Option Nat)) :
    Cr (chN (lwC c) n os) (underR c.st.sum (lcmF 1 c.sp) (lcmF 1 c.tl) os.reverse) (chN (lwC d) n os) (underR d.st.sum (lcmF 1 d.sp) (lcmF 1 d.tl) os.reverse) := by
  unfold chN
  by_cases z : os = []
  · subst z
    rw [if_pos rfl, if_pos rfl]
    exact .refl _ _
  · rw [if_neg z, if_neg z]
    refine Cr.sum fun s hs => parts_cr (n := n) (fun s hs => h.st s) (fun s u hs hu => ?_) (fun u o hu => ?_) _ s hs
    · have q := h.sp s hs u
      have e1 : ((lwC c).sp.getD s []).sum = lcmF 1 c.sp := (evM_row hc.sp s1 hs).2.2
      have e2 : ((lwC d).sp.getD s []).sum = lcmF 1 d.sp := (evM_row hd.sp s3 hs).2.2
      rw [e1, e2] at q
      exact q
    · cases o with
      | none => exact .refl _ _
      | some j =>
        rw [if_neg (by simp), if_neg (by simp)]
        have q := h.tl u hu j
        have e1 : ((lwC c).tl.getD u []).sum = lcmF 1 c.tl := (evM_row hc.tl s2 hu).2.2
        have e2 : ((lwC d).tl.getD u []).sum = lcmF 1 d.tl := (evM_row hd.tl s4 hu).2.2
        rw [e1, e2] at q
        exact q
theorem fr_cr {a A b B : Int} (h : Cr a A b B) (hA : 0 < A) (hB : 0 < B) : frD a A = frD b B := by
  obtain ⟨e1, e2⟩ := h.low hA hB
  unfold frD
  rw [e1, e2]
/-! what the law compares -/
section
variable {n k : Nat} {c e : Ch} {os : List (Option Nat)}
def lwU (c : Ch) (os : List (Option Nat)) : Int := underR c.st.sum (lcmF 1 c.sp) (lcmF 1 c.tl) os.reverse
theorem lwU_pos (hc : ChOk 3 n k c) : 0 < lwU c os :=
  underR_pos hc.st.sum (lcmF_props c.sp 1 (small_of hc.sp hc.n6) (by decide)).1 (lcmF_props c.tl 1 (small_of hc.tl (by have := hc.k5; omega)) (by decide)).1 _
theorem due_course {b : Nat} (hc : ChOk 3 n k c) (he : ChOk b n k e) (h : RCr n e c) {us : List Nat} (hl : os.length = us.length) (hu : ∀ u ∈ us, u < n) : frD (chW e os us) (chB e os us) = frD (chW (lwC c) os us) (lwU c os) := by
  have s1 := small_of hc.sp hc.n6
  have s2 := small_of hc.tl (by have := hc.k5; omega)
  have q := (h.trans (lw_cr hc s1 s2).symm hc).course os us hu
  have eb : chB (lwC c) os us = lwU c os := belowR_even (n := n) (fun s hs => (evM_row hc.sp s1 hs).2.2) (fun s hs => (evM_row hc.tl s2 hs).2.2) _ _ (by rw [List.length_reverse, List.length_reverse]; exact hl) fun u hx => hu u (List.mem_reverse.mp hx)
  rw [eb] at q
  exact fr_cr q (chB_pos he os us hl hu) (lwU_pos hc)
theorem lw_pl (c : Ch) : lwC (plC c) = evC c := rfl
theorem due_chance (hc : ChOk 3 n k c) : frD (chN (evC c) n os) (chU (evC c) os) = frD (chN (lwC c) n os) (lwU c os) := by
  have s1 := small_of hc.sp hc.n6
  have s2 := small_of hc.tl (by have := hc.k5; omega)
  have hp := plC_ok hc
  have s3 := small_of hp.sp hc.n6
  have s4 := small_of hp.tl (by have := hc.k5; omega)
  have r1 : RCr n (lwC (plC c)) (lwC c) := (ev_cr hc s3 s4).trans (lw_cr hc s1 s2).symm hc
  have q := chance_cr hp s3 s4 hc s1 s2 r1 os
  have eu : chU (evC c) os = lwU (plC c) os := by
    unfold chU lwU
    rw [show (evC c).sp = evM (plC c).sp from rfl, show (evC c).tl = evM (plC c).tl from rfl, head_even hp.sp hc.n1 s3, head_even hp.tl hc.n1 s4]
    rfl
  rw [eu]
  exact fr_cr q (lwU_pos hp) (lwU_pos hc)
theorem ceq_cr {b : Nat} (h : CEq e c) (he : ChOk b n k e) : RCr n e c := by
  have row : ∀ {A B : List (List Int)}, MEq A B → ∀ s, LCr (A.getD s []) (B.getD s []) := fun {A B} hm s => by
    by_cases hs : s < A.length
    · have hb : s < B.length := hm.len ▸ hs
      have ea := List.getElem?_eq_getElem hs
      have eb := List.getElem?_eq_getElem hb
      rw [getD_of ea, getD_of eb]
      exact lcr_leq (hm.eq s _ _ ea eb)
    · rw [List.getD_eq_getElem?_getD, List.getD_eq_getElem?_getD, List.getElem?_eq_none_iff.mpr (by omega), List.getElem?_eq_none_iff.mpr (by have := hm.len; omega)]
      exact .refl _
  exact ⟨lcr_leq h.st, fun s _ => row h.sp s, fun s _ => row h.tl s⟩
end

theorem evM_mtx {b r m : Nat} {ls : List (List Int)} (hm : Mtx b r m ls) (r6 : r ≤ 6) (sm : Small ls) : Mtx (b + 60) r m (evM ls) := by
  obtain ⟨a1, a2, _, a4⟩ := lcmF_props ls 1 sm (by decide)
  have p6 : ∀ k, k < 7 → (512 : Int) ^ k ≤ 512 ^ 6 := by decide
  have p := p6 ls.length (by rw [hm.len]; omega)
  have p2 : (512 : Int) ^ 6 < 2 ^ 60 := by decide
  refine ⟨by unfold evM; rw [List.length_map]; exact hm.len, fun l hl => ?_⟩
  obtain ⟨l0, h0, rfl⟩ := List.mem_map.mp hl
  obtain ⟨q0, q1⟩ := sm l0 h0
  have L0 := hm.lin l0 h0
  have w0 := fdiv_le (x := lcmF 1 ls) (g := l0.sum) (by omega) q0 (a4 l0 h0)
  refine ⟨by rw [evL_len]; exact L0.len, fun x hx => ?_, by rw [evL_sum (a4 l0 h0)]; exact a1⟩
  obtain ⟨y, hy, rfl⟩ := List.mem_map.mp hx
  obtain ⟨y0, yb⟩ := L0.bd y hy
  exact ⟨Int.mul_nonneg y0 w0.1, yb.mul (bd_pos w0.1 (by have := w0.2; omega))⟩
theorem lcmF_bd {ls : List (List Int)} (h : ls.length ≤ 6) (sm : Small ls) : Bd 60 (lcmF 1 ls) := by
  obtain ⟨a1, a2, _, a4⟩ := lcmF_props ls 1 sm (by decide)
  have p6 : ∀ k, k < 7 → (512 : Int) ^ k ≤ 512 ^ 6 := by decide
  have p := p6 ls.length (by omega)
  have p2 : (512 : Int) ^ 6 < 2 ^ 60 := by decide
  exact bd_pos (by omega) (by omega)
section
variable {n k : Nat} {c : Ch} {os : List (Option Nat)}
theorem lw_ok (hc : ChOk 3 n k c) : ChOk 63 n k (lwC c) :=
  ⟨hc.n1, hc.n6, hc.k1, hc.k5, hc.sg, hc.st.mono (by omega), evM_mtx hc.sp hc.n6 (small_of hc.sp hc.n6), evM_mtx hc.tl hc.n6 (small_of hc.tl (by have := hc.k5; omega))⟩
theorem one1900 {b : Nat} (h : 1 ≤ b) : Bd b 1 := by show (1 : Int).natAbs < 2 ^ b; exact Nat.one_lt_two_pow (by omega)
theorem lwU_bd (hc : ChOk 3 n k c) (l : os.length ≤ 5) : Bd 1900 (lwU c os) := by
  have s1 := small_of hc.sp hc.n6
  have s2 := small_of hc.tl (by have := hc.k5; omega)
  have n6 := hc.n6
  have q := undF_bd (b := 60) (by decide) ((lin_sum hc.st n6).mono (by decide)) (lcmF_bd (by rw [hc.sp.len]; exact n6) s1) (lcmF_bd (by rw [hc.tl.len]; exact n6) s2) os.reverse
  unfold lwU
  by_cases z : os.reverse = []
  · rw [z]
    exact one1900 (by decide)
  · unfold undF at q
    rw [if_neg z, List.length_reverse] at q
    exact q.mono (by omega)
theorem lwW_bd (hc : ChOk 3 n k c) (l : os.length ≤ 5) (us : List Nat) : Bd 1900 (chW (lwC c) os us) := by
  have h := lw_ok hc
  have sz := mtx_sz h
  refine (wholeR_bd (b := 63) (fun u => getD_bd sz.st u) (fun s u => ?_) (fun u o => ?_) _ _).mono ?_
  · refine getD_bd (b := 63) ?_ u
    intro x hx
    by_cases hs : s < n
    · obtain ⟨l, _, el, hl⟩ := row_of h.sp hs
      rw [el] at hx
      exact (hl.bd x hx).2
    · rw [List.getD_eq_getElem?_getD, List.getElem?_eq_none_iff.mpr (by rw [h.sp.len]; omega)] at hx
      cases hx
  · cases o with
    | none => exact one1900 (by decide)
    | some j =>
      refine getD_bd (b := 63) ?_ j
      intro x hx
      by_cases hs : u < n
      · obtain ⟨l, _, el, hl⟩ := row_of h.tl hs
        rw [el] at hx
        exact (hl.bd x hx).2
      · rw [List.getD_eq_getElem?_getD, List.getElem?_eq_none_iff.mpr (by rw [h.tl.len]; omega)] at hx
        cases hx
  · rw [List.length_reverse]
    omega
theorem lwN_bd (hc : ChOk 3 n k c) (l : os.length ≤ 5) : Bd 1900 (chN (lwC c) n os) := by
  have h := lw_ok hc
  have n6 := hc.n6
  unfold chN
  by_cases z : os = []
  · rw [if_pos z]
    exact one1900 (by decide)
  · rw [if_neg z]
    obtain ⟨o, r, e⟩ : ∃ o r, os.reverse = o :: r := by
      cases q : os.reverse with
      | nil => exact absurd (List.reverse_eq_nil_iff.mp q) z
      | cons o r => exact ⟨o, r, rfl⟩
    have e2 : os = (o :: r).reverse := by rw [← e, List.reverse_reverse]
    have la := aheadF_last (mtx_shp h) r o
    rw [← e2] at la
    have q := (aheadF_all (mtx_shp h) (mtx_sz h) (by decide) (by omega) os _ (List.mem_of_getLast? la)).2
    rw [e]
    refine Bd.mono (Bd.sum8 (k := (2 * 63 + 3) * os.length) ?_ q) ?_
    · simp
      omega
    · omega
end

end VP

/-! VQ1: fractions as rationals; shares along a view -/
namespace VP
open PySem PySem.Spec PyProof.Rows L2 VB VZ VC RT
theorem cz {b : Int} (h : b ≠ 0) : (b : Rat) ≠ 0 := fun z => h (Rat.intCast_inj.mp (by rw [z]; rfl))
theorem cpos {b : Int} (h : 0 < b) : (b : Rat) ≠ 0 := cz (by omega)
/-- a fraction -/
def rD (q : Rat) : PyData := .tuple [.int q.num, .int (q.den : Int)]
theorem low_uniq {a b c d : Int} (hb : 0 < b) (hd : 0 < d) (h1 : a.natAbs.gcd b.natAbs = 1) (h2 : c.natAbs.gcd d.natAbs = 1) (h : a * d = c * b) : a = c ∧ b = d := by
  have d1 : b.natAbs ∣ d.natAbs := by
    have : b.natAbs ∣ a.natAbs * d.natAbs := by
      rw [← Int.natAbs_mul, h, Int.natAbs_mul]
      exact Nat.dvd_mul_left _ _
    exact (Nat.Coprime.symm h1).dvd_of_dvd_mul_left this
  have d2 : d.natAbs ∣ b.natAbs := by
    have : d.natAbs ∣ c.natAbs * b.natAbs := by
      rw [← Int.natAbs_mul, ← h, Int.natAbs_mul]
      exact Nat.dvd_mul_left _ _
    exact (Nat.Coprime.symm h2).dvd_of_dvd_mul_left this
  have e : b.natAbs = d.natAbs := Nat.dvd_antisymm d1 d2
  have e2 : b = d := by omega
  refine ⟨?_, e2⟩
  subst e2
  exact Int.eq_of_mul_eq_mul_right (by omega) h
theorem gcd_low {a b : Int} (h : b ≠ 0) : (lowA a b).natAbs.gcd (lowB a b).natAbs = 1 := by
  have hg := gcdI_pos (a := a) h
  have e1 : lowA a b * comI a b = a := Int.fdiv_mul_cancel (comI_dvd a b).1
  have e2 : lowB a b * comI a b = b := Int.fdiv_mul_cancel (comI_dvd a b).2
  have e3 : (comI a b).natAbs = a.natAbs.gcd b.natAbs := by
    unfold comI gcdI
    split <;> simp
  have n1 : (lowA a b).natAbs * (a.natAbs.gcd b.natAbs) = a.natAbs := by rw [← e3, ← Int.natAbs_mul, e1]
  have n2 : (lowB a b).natAbs * (a.natAbs.gcd b.natAbs) = b.natAbs := by rw [← e3, ← Int.natAbs_mul, e2]
  have g0 : 0 < a.natAbs.gcd b.natAbs := Nat.gcd_pos_of_pos_right _ (by omega)
  have := Nat.gcd_mul_right (lowA a b).natAbs (a.natAbs.gcd b.natAbs) (lowB a b).natAbs
  rw [n1, n2] at this
  have t : (lowA a b).natAbs.gcd (lowB a b).natAbs * (a.natAbs.gcd b.natAbs) = 1 * (a.natAbs.gcd b.natAbs) := by omega
  exact Nat.eq_of_mul_eq_mul_right g0 t
theorem low_rat {a b : Int} (h : b ≠ 0) : lowA a b = ((a : Rat) / (b : Rat)).num ∧ lowB a b = (((a : Rat) / (b : Rat)).den : Int) := by
  have hg := comI_ne (a := a) h
  have e1 : lowA a b * comI a b = a := Int.fdiv_mul_cancel (comI_dvd a b).1
  have e2 : lowB a b * comI a b = b := Int.fdiv_mul_cancel (comI_dvd a b).2
  generalize hq : (a : Rat) / (b : Rat) = q
  have hd : (0 : Int) < q.den := by have := q.den_pos; omega
  have k : Rat.divInt q.num q.den = Rat.divInt a b := by rw [Rat.num_divInt_den, Rat.divInt_eq_div, hq]
  have k2 := (Rat.divInt_eq_divInt_iff (by omega) h).mp k
  refine low_uniq (lowB_pos h) hd (gcd_low h) (by have := q.reduced; simpa [Nat.Coprime] using this) ?_
  refine Int.eq_of_mul_eq_mul_right hg ?_
  have r1 : lowA a b * q.den * comI a b = (lowA a b * comI a b) * q.den := by grind
  have r2 : q.num * lowB a b * comI a b = q.num * (lowB a b * comI a b) := Int.mul_assoc _ _ _
  rw [r1, r2, e1, e2]
  exact k2.symm
theorem frD_rat {a b : Int} (h : b ≠ 0) : frD a b = rD ((a : Rat) / (b : Rat)) := by
  obtain ⟨h1, h2⟩ := low_rat (a := a) h
  unfold frD rD
  rw [h1, h2]
theorem frD_of {a b : Int} {q : Rat} (h : b ≠ 0) (e : (a : Rat) = q * b) : frD a b = rD q := by
  rw [frD_rat h]
  congr 1
  have := cz h
  grind
/-- sizes of a fraction -/
structure Rb (k : Nat) (q : Rat) : Prop where
  num : Bd k q.num
  den : Bd k (q.den : Int)
theorem Rb.mono {k l : Nat} {q : Rat} (h : Rb k q) (e : k ≤ l) : Rb l q := ⟨h.num.mono e, h.den.mono e⟩
theorem rb_of {k : Nat} {a b : Int} {q : Rat} (h : b ≠ 0) (ha : Bd k a) (hb : Bd k b) (e : (a : Rat) = q * b) : Rb k q := by
  have e2 : q = (a : Rat) / (b : Rat) := by have := cz h; grind
  obtain ⟨h1, h2⟩ := low_rat (a := a) h
  subst e2
  exact ⟨h1 ▸ lowA_bd ha h, h2 ▸ lowB_bd hb h⟩
theorem rat_num (q : Rat) : (q.num : Rat) = q * ((q.den : Int) : Rat) := by
  have h : (q.den : Int) ≠ 0 := by have := q.den_pos; omega
  have e := Rat.num_divInt_den q
  rw [Rat.divInt_eq_div] at e
  have := cz h
  grind
theorem den_ne (q : Rat) : (q.den : Int) ≠ 0 := by have := q.den_pos; omega
theorem den_pos' (q : Rat) : (0 : Int) < q.den := by have := q.den_pos; omega
theorem rD_fr (q : Rat) : frD q.num q.den = rD q := frD_of (den_ne q) (rat_num q)
theorem fit_r {q : Rat} (h : Rb 1900 q) : Fit (rD q) := by rw [← rD_fr]; exact fit_fr h.num h.den (den_ne q)
theorem r_one : rD 1 = .tuple [.int 1, .int 1] := rfl
theorem r_zero : rD 0 = .tuple [.int 0, .int 1] := rfl
theorem rD_inj {q r : Rat} (h : rD q = rD r) : q = r := by
  unfold rD at h
  injection h with h
  injection h with h1 h2
  injection h2 with h2 h3
  injection h1 with h1
  injection h2 with h2
  exact Rat.ext h1 (by omega)
/-! sums -/
def sumQ (n : Nat) (f : Nat → Rat) : Rat := ((List.range n).map f).sum
theorem sumQ_zero (f : Nat → Rat) : sumQ 0 f = 0 := rfl
theorem sum_appQ (a b : List Rat) : (a ++ b).sum = a.sum + b.sum := by
  induction a with
  | nil => simp; grind
  | cons x r ih => rw [List.cons_append, List.sum_cons, List.sum_cons, ih]; grind
theorem sumQ_succ (n : Nat) (f : Nat → Rat) : sumQ (n + 1) f = sumQ n f + f n := by
  unfold sumQ
  rw [List.range_succ, List.map_append, sum_appQ]
  simp
  grind
theorem sumQ_congr {n : Nat} {f g : Nat → Rat} (h : ∀ u, u < n → f u = g u) : sumQ n f = sumQ n g := by
  unfold sumQ
  exact congrArg List.sum (List.map_congr_left fun u hu => h u (List.mem_range.mp hu))
theorem sumQ_add (n : Nat) (f g : Nat → Rat) : sumQ n (fun u => f u + g u) = sumQ n f + sumQ n g := by
  induction n with
  | zero => simp only [sumQ_zero]; grind
  | succ n ih => simp only [sumQ_succ]; grind
theorem sumQ_sub (n : Nat) (f g : Nat → Rat) : sumQ n (fun u => f u - g u) = sumQ n f - sumQ n g := by
  induction n with
  | zero => simp only [sumQ_zero]; grind
  | succ n ih => simp only [sumQ_succ]; grind
theorem sumQ_mul (n : Nat) (k : Rat) (f : Nat → Rat) : sumQ n (fun u => k * f u) = k * sumQ n f := by
  induction n with
  | zero => simp only [sumQ_zero]; grind
  | succ n ih => simp only [sumQ_succ]; grind
theorem sumQ_mulR (n : Nat) (k : Rat) (f : Nat → Rat) : sumQ n (fun u => f u * k) = sumQ n f * k := by
  induction n with
  | zero => simp only [sumQ_zero]; grind
  | succ n ih => simp only [sumQ_succ]; grind
theorem sumQ_const (n : Nat) (k : Rat) : sumQ n (fun _ => k) = n * k := by
  induction n with
  | zero => simp only [sumQ_zero]; grind
  | succ n ih => rw [sumQ_succ, ih]; grind
theorem sumQ_swap (n m : Nat) (f : Nat → Nat → Rat) : sumQ n (fun u => sumQ m (f u)) = sumQ m (fun v => sumQ n fun u => f u v) := by
  induction n with
  | zero => simp only [sumQ_zero]; rw [sumQ_const]; grind
  | succ n ih => rw [sumQ_succ, ih, ← sumQ_add]; exact sumQ_congr fun v _ => (sumQ_succ n _).symm
theorem castSum {α : Type} (f : α → Int) : ∀ l : List α, (((l.map f).sum : Int) : Rat) = (l.map fun x => (f x : Rat)).sum
  | [] => rfl
  | x :: r => by
    rw [List.map_cons, List.sum_cons, List.map_cons, List.sum_cons, ← castSum f r]
    exact Rat.intCast_add _ _
theorem cast_sumN (n : Nat) (f : Nat → Int) : ((sumN n f : Int) : Rat) = sumQ n fun u => (f u : Rat) := castSum f _
/-! shares -/
def qS (c : Ch) (u : Nat) : Rat := (fSt c u : Rat) / (c.st.sum : Rat)
def qP (c : Ch) (s u : Nat) : Rat := (fSp c s u : Rat) / ((c.sp.getD s []).sum : Rat)
def qT (c : Ch) (u : Nat) : Option Nat → Rat
  | none => 1
  | some j => (fTl c u (some j) : Rat) / ((c.tl.getD u []).sum : Rat)
def paQ (c : Ch) (n : Nat) : List (Option Nat) → Nat → Rat
  | [], u => qS c u
  | o :: [], u => qS c u * qT c u o
  | o :: v, u => sumQ n (fun s => paQ c n v s * qP c s u) * qT c u o
def wyQ (c : Ch) (n : Nat) : List (Option Nat) → Nat → Rat
  | [], _ => 1
  | o :: v, s => sumQ n fun u => qP c s u * (qT c u o * wyQ c n v u)
def chQ (c : Ch) (n : Nat) (os : List (Option Nat)) : Rat := sumQ n (paQ c n os.reverse)
/-- all lines have sums that are not 0 -/
structure Nz (n : Nat) (c : Ch) : Prop where
  st : c.st.sum ≠ 0
  sp : ∀ s, s < n → (c.sp.getD s []).sum ≠ 0
  tl : ∀ s, s < n → (c.tl.getD s []).sum ≠ 0
theorem nz_of {b n k : Nat} {c : Ch} (h : ChOk b n k c) : Nz n c where
  st := by have := h.st.sum; omega
  sp := fun s hs => by
    obtain ⟨l, _, e, hl⟩ := row_of h.sp hs
    rw [e]
    have := hl.sum
    omega
  tl := fun s hs => by
    obtain ⟨l, _, e, hl⟩ := row_of h.tl hs
    rw [e]
    have := hl.sum
    omega
theorem list_sumQ {n : Nat} {l : List Int} (h : l.length = n) : (l.sum : Rat) = sumQ n fun u => ((l.getD u 0 : Int) : Rat) := by
  conv => lhs; rw [list_fun h]
  exact castSum _ _
theorem qS_one {b n k : Nat} {c : Ch} (h : ChOk b n k c) : sumQ n (qS c) = 1 := by
  have e : sumQ n (qS c) = sumQ n (fun u => (fSt c u : Rat) * (c.st.sum : Rat)⁻¹) := sumQ_congr fun u _ => by unfold qS; grind
  have e2 := list_sumQ h.st.len
  have z := cz (nz_of h).st
  rw [e, sumQ_mulR]
  have e3 : sumQ n (fun u => (fSt c u : Rat)) = (c.st.sum : Rat) := e2.symm
  rw [e3]
  grind
theorem qP_one {b n k : Nat} {c : Ch} (h : ChOk b n k c) {s : Nat} (hs : s < n) : sumQ n (qP c s) = 1 := by
  obtain ⟨l, _, el, hl⟩ := row_of h.sp hs
  have z := cz ((nz_of h).sp s hs)
  have e : sumQ n (qP c s) = sumQ n (fun u => (fSp c s u : Rat) * ((c.sp.getD s []).sum : Rat)⁻¹) := sumQ_congr fun u _ => by unfold qP; grind
  have e2 := list_sumQ hl.len
  rw [e, sumQ_mulR]
  have e3 : sumQ n (fun u => (fSp c s u : Rat)) = ((c.sp.getD s []).sum : Rat) := by
    unfold fSp
    rw [el]
    exact e2.symm
  rw [e3]
  grind
theorem qT_one {b n k : Nat} {c : Ch} (h : ChOk b n k c) {u : Nat} (hu : u < n) : sumQ k (fun j => qT c u (some j)) = 1 := by
  obtain ⟨l, _, el, hl⟩ := row_of h.tl hu
  have z := cz ((nz_of h).tl u hu)
  have e : sumQ k (fun j => qT c u (some j)) = sumQ k (fun j => (fTl c u (some j) : Rat) * ((c.tl.getD u []).sum : Rat)⁻¹) := sumQ_congr fun u _ => by unfold qT; grind
  have e2 := list_sumQ hl.len
  rw [e, sumQ_mulR]
  have e3 : sumQ k (fun j => (fTl c u (some j) : Rat)) = ((c.tl.getD u []).sum : Rat) := by
    unfold fTl
    rw [el]
    exact e2.symm
  rw [e3]
  grind
theorem chQ_nil {b n k : Nat} {c : Ch} (h : ChOk b n k c) : chQ c n [] = 1 := qS_one h
/-- a gap behind -/
theorem paQ_gap {b n k : Nat} {c : Ch} (h : ChOk b n k c) (v : List (Option Nat)) : sumQ n (paQ c n (none :: v)) = sumQ n (paQ c n v) := by
  cases v with
  | nil => exact sumQ_congr fun u _ => by show qS c u * 1 = qS c u; grind
  | cons o r =>
    have e : sumQ n (paQ c n (none :: o :: r)) = sumQ n fun u => sumQ n fun s => paQ c n (o :: r) s * qP c s u := sumQ_congr fun u _ => by
      show sumQ n (fun s => paQ c n (o :: r) s * qP c s u) * 1 = _
      grind
    rw [e, sumQ_swap]
    refine sumQ_congr fun s hs => ?_
    rw [sumQ_mul, qP_one h hs]
    grind
theorem chQ_gap {b n k : Nat} {c : Ch} (h : ChOk b n k c) (os : List (Option Nat)) : chQ c n (os ++ [none]) = chQ c n os := by
  unfold chQ
  rw [List.reverse_append]
  exact paQ_gap h _
/-- a gap is the sum over its signs -/
theorem paQ_sum {b n k : Nat} {c : Ch} (h : ChOk b n k c) (v : List (Option Nat)) : ∀ (t : List (Option Nat)) (u : Nat), u < n → sumQ k (fun j => paQ c n (t ++ some j :: v) u) = paQ c n (t ++ none :: v) u
  | [], u, hu => by
    cases v with
    | nil =>
      show sumQ k (fun j => qS c u * qT c u (some j)) = qS c u * 1
      rw [sumQ_mul, qT_one h hu]
    | cons o r =>
      show sumQ k (fun j => sumQ n (fun s => paQ c n (o :: r) s * qP c s u) * qT c u (some j)) = sumQ n (fun s => paQ c n (o :: r) s * qP c s u) * 1
      rw [sumQ_mul, qT_one h hu]
  | o :: t, u, hu => by
    have e : ∀ x : Option Nat, paQ c n (o :: t ++ x :: v) u = sumQ n (fun s => paQ c n (t ++ x :: v) s * qP c s u) * qT c u o := by
      intro x
      cases t <;> rfl
    simp only [e]
    rw [sumQ_mulR, sumQ_swap]
    congr 1
    refine sumQ_congr fun s hs => ?_
    rw [sumQ_mulR, paQ_sum h v t s hs]
theorem chQ_sum {b n k : Nat} {c : Ch} (h : ChOk b n k c) (os ps : List (Option Nat)) : sumQ k (fun j => chQ c n (os ++ some j :: ps)) = chQ c n (os ++ none :: ps) := by
  unfold chQ
  rw [sumQ_swap]
  refine sumQ_congr fun u hu => ?_
  have e : ∀ x : Option Nat, (os ++ x :: ps).reverse = ps.reverse ++ x :: os.reverse := fun x => by simp
  simp only [e]
  exact paQ_sum h _ _ u hu
theorem chQ_behind {b n k : Nat} {c : Ch} (h : ChOk b n k c) (os : List (Option Nat)) : sumQ k (fun j => chQ c n (os ++ [some j])) = chQ c n os := by
  rw [chQ_sum h os [], chQ_gap h]
/-- what comes ahead times what comes behind -/
theorem paQ_wy (c : Ch) (n : Nat) : ∀ (v : List (Option Nat)) (r : List (Option Nat)) (o : Option Nat), sumQ n (fun u => paQ c n (o :: r) u * wyQ c n v u) = sumQ n (paQ c n (v.reverse ++ o :: r))
  | [], r, o => sumQ_congr fun u _ => by show _ * 1 = _; grind
  | o2 :: v, r, o => by
    have ih := paQ_wy c n v (o :: r) o2
    rw [List.reverse_cons, List.append_assoc]
    show _ = sumQ n (paQ c n (v.reverse ++ (o2 :: o :: r)))
    rw [← ih]
    have e1 : sumQ n (fun s => paQ c n (o :: r) s * wyQ c n (o2 :: v) s) = sumQ n fun s => sumQ n fun u => paQ c n (o :: r) s * qP c s u * (qT c u o2 * wyQ c n v u) := sumQ_congr fun s _ => by
      show _ * sumQ n _ = _
      rw [← sumQ_mul]
      exact sumQ_congr fun u _ => by grind
    rw [e1, sumQ_swap]
    refine sumQ_congr fun u _ => ?_
    show _ = sumQ n (fun s => paQ c n (o :: r) s * qP c s u) * qT c u o2 * _
    rw [sumQ_mulR]
    grind
theorem qP_eq {n : Nat} {c c' : Ch} (h : RCr n c c') (z : Nz n c) (z' : Nz n c') {s : Nat} (hs : s < n) (u : Nat) : qP c s u = qP c' s u := by
  have e := h.sp s hs u
  unfold Cr at e
  have e2 := congrArg (fun x : Int => (x : Rat)) e
  simp only [Rat.intCast_mul] at e2
  have z1 := cz (z.sp s hs)
  have z2 := cz (z'.sp s hs)
  unfold qP fSp
  grind
theorem qS_eq {n : Nat} {c c' : Ch} (h : RCr n c c') (z : Nz n c) (z' : Nz n c') (u : Nat) : qS c u = qS c' u := by
  have e := h.st u
  unfold Cr at e
  have e2 := congrArg (fun x : Int => (x : Rat)) e
  simp only [Rat.intCast_mul] at e2
  have z1 := cz z.st
  have z2 := cz z'.st
  unfold qS fSt
  grind
theorem qT_eq {n : Nat} {c c' : Ch} (h : RCr n c c') (z : Nz n c) (z' : Nz n c') {u : Nat} (hu : u < n) (o : Option Nat) : qT c u o = qT c' u o := by
  cases o with
  | none => rfl
  | some j =>
    have e := h.tl u hu j
    unfold Cr at e
    have e2 := congrArg (fun x : Int => (x : Rat)) e
    simp only [Rat.intCast_mul] at e2
    have z1 := cz (z.tl u hu)
    have z2 := cz (z'.tl u hu)
    unfold qT fTl
    grind
theorem paQ_eq {n : Nat} {c c' : Ch} (h : RCr n c c') (z : Nz n c) (z' : Nz n c') : ∀ (v : List (Option Nat)) (u : Nat), u < n → paQ c n v u = paQ c' n v u
  | [], u, hu => qS_eq h z z' u
  | [o], u, hu => by
    show qS c u * qT c u o = qS c' u * qT c' u o
    rw [qS_eq h z z' u, qT_eq h z z' hu o]
  | o :: o2 :: r, u, hu => by
    show sumQ n (fun s => paQ c n (o2 :: r) s * qP c s u) * qT c u o = sumQ n (fun s => paQ c' n (o2 :: r) s * qP c' s u) * qT c' u o
    rw [qT_eq h z z' hu o]
    congr 1
    exact sumQ_congr fun s hs => by rw [paQ_eq h z z' (o2 :: r) s hs, qP_eq h z z' hs]
theorem wyQ_eq {n : Nat} {c c' : Ch} (h : RCr n c c') (z : Nz n c) (z' : Nz n c') : ∀ (v : List (Option Nat)) (s : Nat), s < n → wyQ c n v s = wyQ c' n v s
  | [], _, _ => rfl
  | o :: v, s, hs => sumQ_congr fun u hu => by rw [qP_eq h z z' hs, qT_eq h z z' hu o, wyQ_eq h z z' v u hu]
theorem chQ_eq {n : Nat} {c c' : Ch} (h : RCr n c c') (z : Nz n c) (z' : Nz n c') (os : List (Option Nat)) : chQ c n os = chQ c' n os := sumQ_congr fun u hu => paQ_eq h z z' _ u hu
/-- lines of one sum -/
structure Evn (n : Nat) (c : Ch) (A0 A1 A2 : Int) : Prop where
  st : c.st.sum = A0
  sp : ∀ s, s < n → (c.sp.getD s []).sum = A1
  tl : ∀ s, s < n → (c.tl.getD s []).sum = A2
  z0 : A0 ≠ 0
  z1 : A1 ≠ 0
  z2 : A2 ≠ 0
theorem Evn.s {n : Nat} {c : Ch} {A0 A1 A2 : Int} (h : Evn n c A0 A1 A2) (u : Nat) : (fSt c u : Rat) = qS c u * A0 := by
  unfold qS
  rw [h.st]
  have := cz h.z0
  grind
theorem Evn.p {n : Nat} {c : Ch} {A0 A1 A2 : Int} (h : Evn n c A0 A1 A2) {s : Nat} (hs : s < n) (u : Nat) : (fSp c s u : Rat) = qP c s u * A1 := by
  unfold qP
  rw [h.sp s hs]
  have := cz h.z1
  grind
theorem Evn.t {n : Nat} {c : Ch} {A0 A1 A2 : Int} (h : Evn n c A0 A1 A2) {u : Nat} (hu : u < n) (o : Option Nat) : (fTl c u o : Rat) = qT c u o * ((if o = none then 1 else A2 : Int) : Rat) := by
  cases o with
  | none => show ((1 : Int) : Rat) = 1 * ((1 : Int) : Rat); grind
  | some j =>
    rw [if_neg (by simp)]
    unfold qT
    rw [h.tl u hu]
    have := cz h.z2
    grind
theorem Evn.parts {n : Nat} {c : Ch} {A0 A1 A2 : Int} (h : Evn n c A0 A1 A2) : ∀ (r : List (Option Nat)) (o : Option Nat) (u : Nat), u < n → (partsR (fSt c) (fSp c) (fTl c) n (o :: r) u : Rat) = paQ c n (o :: r) u * (underR A0 A1 A2 (o :: r) : Rat)
  | [], o, u, hu => by
    show ((fSt c u * fTl c u o : Int) : Rat) = qS c u * qT c u o * ((A0 * (if o = none then 1 else A2) : Int) : Rat)
    rw [Rat.intCast_mul, Rat.intCast_mul, h.s u, h.t hu o]
    grind
  | o2 :: r, o, u, hu => by
    show ((sumN n (fun s => partsR (fSt c) (fSp c) (fTl c) n (o2 :: r) s * fSp c s u) * fTl c u o : Int) : Rat) = sumQ n (fun s => paQ c n (o2 :: r) s * qP c s u) * qT c u o * ((underR A0 A1 A2 (o2 :: r) * A1 * (if o = none then 1 else A2) : Int) : Rat)
    rw [Rat.intCast_mul, Rat.intCast_mul, Rat.intCast_mul, h.t hu o, cast_sumN]
    have e : sumQ n (fun s => ((partsR (fSt c) (fSp c) (fTl c) n (o2 :: r) s * fSp c s u : Int) : Rat)) = sumQ n (fun s => paQ c n (o2 :: r) s * qP c s u * ((underR A0 A1 A2 (o2 :: r) : Rat) * (A1 : Rat))) := sumQ_congr fun s hs => by
      rw [Rat.intCast_mul, Evn.parts h r o2 s hs, h.p hs]
      grind
    rw [e, sumQ_mulR]
    grind
theorem underR_ne {A0 A1 A2 : Int} (h0 : A0 ≠ 0) (h1 : A1 ≠ 0) (h2 : A2 ≠ 0) : ∀ v : List (Option Nat), underR A0 A1 A2 v ≠ 0
  | [] => by show (1 : Int) ≠ 0; decide
  | o :: [] => by
    show A0 * (if o = none then 1 else A2) ≠ 0
    exact Int.mul_ne_zero h0 (by split <;> first | assumption | decide)
  | o :: o2 :: v => by
    show underR A0 A1 A2 (o2 :: v) * A1 * (if o = none then 1 else A2) ≠ 0
    exact Int.mul_ne_zero (Int.mul_ne_zero (underR_ne h0 h1 h2 (o2 :: v)) h1) (by split <;> first | assumption | decide)
/-- the chance of a view, by both -/
theorem Evn.chN {n : Nat} {c : Ch} {A0 A1 A2 : Int} (h : Evn n c A0 A1 A2) {os : List (Option Nat)} (hs : sumQ n (qS c) = 1) : (chN c n os : Rat) = chQ c n os * (underR A0 A1 A2 os.reverse : Rat) := by
  unfold VP.chN chQ
  by_cases z : os = []
  · subst z
    rw [if_pos rfl]
    show ((1 : Int) : Rat) = sumQ n (qS c) * ((1 : Int) : Rat)
    rw [hs]
    grind
  · rw [if_neg z]
    obtain ⟨o, r, e⟩ : ∃ o r, os.reverse = o :: r := by
      cases q : os.reverse with
      | nil => exact absurd (List.reverse_eq_nil_iff.mp q) z
      | cons o r => exact ⟨o, r, rfl⟩
    rw [e, cast_sumN, ← sumQ_mulR]
    exact sumQ_congr fun u hu => h.parts r o u hu
theorem lw_evn {b n k : Nat} {c : Ch} (hc : ChOk b n k c) (s1 : Small c.sp) (s2 : Small c.tl) : Evn n (lwC c) c.st.sum (lcmF 1 c.sp) (lcmF 1 c.tl) where
  st := rfl
  sp := fun s hs => (evM_row hc.sp s1 hs).2.2
  tl := fun s hs => (evM_row hc.tl s2 hs).2.2
  z0 := by have := hc.st.sum; omega
  z1 := by have := (lcmF_props c.sp 1 s1 (by decide)).1; omega
  z2 := by have := (lcmF_props c.tl 1 s2 (by decide)).1; omega
theorem lw_ok' {b n k : Nat} {c : Ch} (hc : ChOk b n k c) (s1 : Small c.sp) (s2 : Small c.tl) : ChOk (b + 60) n k (lwC c) :=
  ⟨hc.n1, hc.n6, hc.k1, hc.k5, hc.sg, hc.st.mono (by omega), evM_mtx hc.sp hc.n6 s1, evM_mtx hc.tl hc.n6 s2⟩
/-- the law's own reckoning -/
theorem lw_chance {b n k : Nat} {c : Ch} (hc : ChOk b n k c) (s1 : Small c.sp) (s2 : Small c.tl) (os : List (Option Nat)) : frD (chN (lwC c) n os) (lwU c os) = rD (chQ c n os) := by
  have ev := lw_evn hc s1 s2
  have e := ev.chN (os := os) (qS_one (lw_ok' hc s1 s2))
  rw [chQ_eq (lw_cr hc s1 s2) (nz_of (lw_ok' hc s1 s2)) (nz_of hc) os] at e
  exact frD_of (underR_ne ev.z0 ev.z1 ev.z2 _) e
theorem ev_evn {b n k : Nat} {c : Ch} (hc : ChOk b n k c) (s1 : Small (c.sp.map plL)) (s2 : Small (c.tl.map plL)) : Evn n (evC c) (evC c).st.sum ((evC c).sp.headD []).sum ((evC c).tl.headD []).sum := by
  have hp := plC_ok hc
  have h := lw_evn hp s1 s2
  have e1 := head_even hp.sp hc.n1 s1
  have e2 := head_even hp.tl hc.n1 s2
  have e1' : ((evC c).sp.headD []).sum = lcmF 1 (plC c).sp := e1
  have e2' : ((evC c).tl.headD []).sum = lcmF 1 (plC c).tl := e2
  rw [e1', e2']
  exact h
/-- the program's own -/
theorem ev_chance {b n k : Nat} {c : Ch} (hc : ChOk b n k c) (s1 : Small (c.sp.map plL)) (s2 : Small (c.tl.map plL)) (os : List (Option Nat)) : frD (chN (evC c) n os) (chU (evC c) os) = rD (chQ c n os) := by
  have ev := ev_evn hc s1 s2
  have hE := evC_ok hc s1 s2
  have e := ev.chN (os := os) (qS_one hE)
  rw [chQ_eq (ev_cr hc s1 s2) (nz_of hE) (nz_of hc) os] at e
  exact frD_of (underR_ne ev.z0 ev.z1 ev.z2 _) e
/-! sizes -/
theorem lcmF_le {M : Nat} (hM : 1 ≤ M) : ∀ (ls : List (List Int)) (g : Int), (∀ l ∈ ls, 0 < l.sum ∧ l.sum ≤ M) → 0 < g → lcmF g ls ≤ g * M ^ ls.length
  | [], g, _, hg => by show g ≤ g * M ^ 0; simp
  | l :: r, g, h, hg => by
    obtain ⟨s0, s1⟩ := h l (by simp)
    have p := lcmI_pos hg s0
    have a2 := lcmF_le hM r (lcmI g l.sum) (fun x hx => h x (by simp [hx])) p
    have le := lcmI_le hg s0
    have le2 : g * l.sum ≤ g * M := Int.mul_le_mul_of_nonneg_left s1 (by omega)
    have p5 : (0 : Int) < (M : Int) ^ r.length := Int.pow_pos (by omega)
    have le3 : lcmI g l.sum * M ^ r.length ≤ (g * M) * M ^ r.length := Int.mul_le_mul_of_nonneg_right (by omega) (by omega)
    rw [List.length_cons, Int.pow_succ, Int.mul_comm ((M : Int) ^ r.length) M, ← Int.mul_assoc]
    exact Int.le_trans a2 le3
theorem sum_max {M : Int} : ∀ {ns : List Int}, (∀ x ∈ ns, x ≤ M) → ns.sum ≤ ns.length * M
  | [], _ => by simp
  | x :: r, h => by
    have := sum_max (ns := r) fun y hy => h y (by simp [hy])
    have := h x (by simp)
    rw [List.sum_cons, List.length_cons]
    have e : ((r.length + 1 : Nat) : Int) * M = r.length * M + M := by rw [Int.natCast_add, Int.add_mul]; simp
    omega
/-- weights to 7 -/
theorem lcm3 {r n B : Nat} {ls : List (List Int)} (h : Mtx 3 r n ls) (n1 : 1 ≤ n) (e : (7 * n) ^ r < 2 ^ B) : lcmF 1 ls < 2 ^ B := by
  have q := lcmF_le (M := 7 * n) (by omega) ls 1 (fun l hl => by
    have L := h.lin l hl
    refine ⟨L.sum, ?_⟩
    have := sum_max (M := 7) (ns := l) fun x hx => by
      obtain ⟨h0, h1⟩ := L.bd x hx
      have h1 : x.natAbs < 2 ^ 3 := h1
      omega
    rw [L.len] at this
    omega) (by decide)
  rw [h.len] at q
  have e2 : (((7 * n : Nat) : Int)) ^ r = (((7 * n) ^ r : Nat) : Int) := by rw [Int.natCast_pow]
  rw [e2] at q
  have e3 : ((2 ^ B : Nat) : Int) = (2 : Int) ^ B := by rw [Int.natCast_pow]; rfl
  omega
theorem evM_tight {b r n B : Nat} {ls : List (List Int)} (h : Mtx b r n ls) (sm : Small ls) (e : lcmF 1 ls < 2 ^ B) : Mtx B r n (evM ls) := by
  obtain ⟨a1, _, _, a4⟩ := lcmF_props ls 1 sm (by decide)
  refine ⟨by unfold evM; rw [List.length_map]; exact h.len, fun l hl => ?_⟩
  obtain ⟨l0, h0, rfl⟩ := List.mem_map.mp hl
  obtain ⟨q0, q1⟩ := sm l0 h0
  have L0 := h.lin l0 h0
  have w0 := fdiv_le (x := lcmF 1 ls) (g := l0.sum) (by omega) q0 (a4 l0 h0)
  have es := evL_sum (a4 l0 h0)
  refine ⟨by rw [evL_len]; exact L0.len, fun x hx => ?_, by rw [es]; exact a1⟩
  have nn : ∀ y ∈ evL (lcmF 1 ls) l0, 0 ≤ y := fun y hy => by
    obtain ⟨z, hz, rfl⟩ := List.mem_map.mp hy
    exact Int.mul_nonneg (L0.bd z hz).1 w0.1
  have le : ∀ {ns : List Int}, (∀ y ∈ ns, 0 ≤ y) → ∀ y ∈ ns, y ≤ ns.sum := by
    intro ns
    induction ns with
    | nil => intro _ y hy; cases hy
    | cons a t ih =>
      intro h y hy
      rw [List.sum_cons]
      have s0 : ∀ {ms : List Int}, (∀ y ∈ ms, 0 ≤ y) → 0 ≤ ms.sum := by
        intro ms
        induction ms with
        | nil => intro _; simp
        | cons a t ih => intro h; rw [List.sum_cons]; have := ih fun y hy => h y (by simp [hy]); have := h a (by simp); omega
      rcases List.mem_cons.mp hy with rfl | hy
      · have := s0 (ms := t) fun z hz => h z (by simp [hz])
        omega
      · have := ih (fun z hz => h z (by simp [hz])) y hy
        have := h a (by simp)
        omega
  have l1 := le nn x hx
  rw [es] at l1
  exact ⟨nn x hx, bd_pos (nn x hx) (by omega)⟩
theorem chN_bd {n k b : Nat} {c : Ch} (h : ChOk b n k c) (b1 : 1 ≤ b) (os : List (Option Nat)) : Bd ((2 * b + 3) * os.length + 3) (chN c n os) := by
  have n6 := h.n6
  unfold VP.chN
  by_cases z : os = []
  · rw [if_pos z]
    exact one_bd (by omega)
  · rw [if_neg z]
    obtain ⟨o, r, e⟩ : ∃ o r, os.reverse = o :: r := by
      cases q : os.reverse with
      | nil => exact absurd (List.reverse_eq_nil_iff.mp q) z
      | cons o r => exact ⟨o, r, rfl⟩
    have e2 : os = (o :: r).reverse := by rw [← e, List.reverse_reverse]
    have la := aheadF_last (mtx_shp h) r o
    rw [← e2] at la
    have q := (aheadF_all (mtx_shp h) (mtx_sz h) b1 (by omega) os _ (List.mem_of_getLast? la)).2
    rw [e]
    exact Bd.sum8 (k := (2 * b + 3) * os.length) (by simp; omega) q
theorem undR_bd {A0 A1 A2 : Int} {b : Nat} (hb : 1 ≤ b) (h0 : Bd b A0) (h1 : Bd b A1) (h2 : Bd b A2) (r : List (Option Nat)) : Bd (2 * b * r.length + b) (underR A0 A1 A2 r) := by
  by_cases z : r = []
  · subst z
    exact one_bd (by show 1 ≤ 2 * b * 0 + b; omega)
  · have q := undF_bd hb h0 h1 h2 r
    unfold undF at q
    rwa [if_neg z] at q
/-- the size of a chance -/
theorem ch_rb {n k B : Nat} {c : Ch} (hc : ChOk 3 n k c) (b6 : 6 ≤ B) (e1 : (7 * n) ^ n < 2 ^ B) (e2 : (7 * k) ^ n < 2 ^ B) (os : List (Option Nat)) : Rb ((2 * B + 3) * os.length + B) (chQ c n os) := by
  have n6 := hc.n6
  have n1 := hc.n1
  have k5 := hc.k5
  have s1 := small_of hc.sp n6
  have s2 := small_of hc.tl (by omega)
  have l1 := lcm3 hc.sp n1 e1
  have l2 := lcm3 hc.tl hc.k1 e2
  have p1 := (lcmF_props c.sp 1 s1 (by decide)).1
  have p2 := (lcmF_props c.tl 1 s2 (by decide)).1
  have ok : ChOk B n k (lwC c) := ⟨n1, n6, hc.k1, k5, hc.sg, hc.st.mono (by omega), evM_tight hc.sp s1 l1, evM_tight hc.tl s2 l2⟩
  have ev := lw_evn hc s1 s2
  have e := ev.chN (os := os) (qS_one (lw_ok' hc s1 s2))
  rw [chQ_eq (lw_cr hc s1 s2) (nz_of (lw_ok' hc s1 s2)) (nz_of hc) os] at e
  refine rb_of (underR_ne ev.z0 ev.z1 ev.z2 _) ((chN_bd ok (by omega) os).mono (by omega)) ?_ e
  have h0 : Bd B c.st.sum := (lin_sum hc.st n6).mono (by omega)
  have := undR_bd (b := B) (by omega) h0 (bd_pos (by omega) l1) (bd_pos (by omega) l2) os.reverse
  rw [List.length_reverse] at this
  refine this.mono ?_
  rw [Nat.add_mul]
  omega
end VP

/-! VQ2: what repr asks, by parts; list(range(..)) -/
namespace VP
open PySem PySem.Spec PyProof.Rows L2 VB VZ VC RT
structure Fz (w dd : Nat) (d : PyData) : Prop where
  sh : d.showable = true
  wt : wt d ≤ w
  dp : d.depth ≤ dd
structure FzA (w dd : Nat) (ds : List PyData) : Prop where
  sh : PyData.showableAll ds = true
  wt : wtAll ds ≤ w
  dp : PyData.depthAll ds ≤ dd
section
variable {w dd w' d' : Nat} {d : PyData} {ds : List PyData}
theorem Fz.fit (h : Fz w dd d) (hw : w ≤ 16000000 := by decide) (hd : dd < 60 := by decide) : Fit d := ⟨h.sh, Nat.le_trans h.wt hw, Nat.lt_of_le_of_lt h.dp hd⟩
theorem Fz.mono (h : Fz w dd d) (hw : w ≤ w') (hd : dd ≤ d') : Fz w' d' d := ⟨h.sh, Nat.le_trans h.wt hw, Nat.le_trans h.dp hd⟩
theorem FzA.mono (h : FzA w dd ds) (hw : w ≤ w') (hd : dd ≤ d') : FzA w' d' ds := ⟨h.sh, Nat.le_trans h.wt hw, Nat.le_trans h.dp hd⟩
theorem fza_nil : FzA 0 0 [] := ⟨rfl, Nat.le_refl _, Nat.le_refl _⟩
theorem fza_cons (h : Fz w dd d) (t : FzA w' d' ds) : FzA (w + 2 + w') (max dd d') (d :: ds) := by
  refine ⟨?_, ?_, ?_⟩
  · simp only [PyData.showableAll, h.sh, t.sh, Bool.and_self]
  · have := h.wt
    have := t.wt
    simp only [VB.wtAll]
    omega
  · have := h.dp
    have := t.dp
    simp only [PyData.depthAll]
    omega
theorem fza_all (h : ∀ d ∈ ds, Fz w dd d) : FzA (ds.length * (w + 2)) dd ds := by
  induction ds with
  | nil => exact fza_nil.mono (by simp) (Nat.zero_le _)
  | cons x r ih =>
    refine (fza_cons (h x (by simp)) (ih fun d hd => h d (by simp [hd]))).mono ?_ (by omega)
    rw [List.length_cons, Nat.add_mul]
    omega
theorem fz_lst (h : FzA w dd ds) : Fz (w + 3) (dd + 1) (.list ds) := by
  refine ⟨?_, ?_, ?_⟩
  · simp only [PyData.showable, h.sh]
  · have := h.wt
    simp only [VB.wt]
    omega
  · have := h.dp
    simp only [PyData.depth]
    omega
theorem fz_tup (h : FzA w dd ds) : Fz (w + 3) (dd + 1) (.tuple ds) := by
  refine ⟨?_, ?_, ?_⟩
  · simp only [PyData.showable, h.sh]
  · have := h.wt
    simp only [VB.wt]
    omega
  · have := h.dp
    simp only [PyData.depth]
    omega
theorem fz_int {k : Nat} {i : Int} (h : Bd k i) (hk : k ≤ 1920) : Fz 1921 0 (.int i) := ⟨sh_int h hk, Nat.le_refl _, Nat.le_refl _⟩
theorem fz_bool (b : Bool) : Fz 5 0 (.bool b) := ⟨rfl, Nat.le_refl _, Nat.le_refl _⟩
theorem fz_none : Fz 4 0 .none := ⟨rfl, Nat.le_refl _, Nat.le_refl _⟩
theorem fz_str {z : Str} (h : (reprText z).length ≤ w) : Fz w 0 (.str z) := ⟨rfl, h, Nat.le_refl _⟩
theorem fz_r {k : Nat} {q : Rat} (h : Rb k q) (hk : k ≤ 1920) : Fz 3849 1 (rD q) := fz_tup (fza_cons (fz_int h.num hk) (fza_cons (fz_int h.den hk) fza_nil))
theorem fz_rs {k : Nat} {qs : List Rat} (h : ∀ q ∈ qs, Rb k q) (hk : k ≤ 1920) : FzA (qs.length * 3851) 1 (qs.map rD) := by
  have := fza_all (ds := qs.map rD) (w := 3849) (dd := 1) fun d hd => by
    obtain ⟨q, hq, rfl⟩ := List.mem_map.mp hd
    exact fz_r (h q hq) hk
  rwa [List.length_map] at this
theorem fz_ch {b n k : Nat} {c : Ch} (h : ChOk b n k c) (hb : b ≤ 1900) : Fz 170000 3 (chD c) := by
  obtain ⟨h1, h2, h3⟩ := fit_ch h hb
  exact ⟨h1, h3, h2⟩
theorem fz_vw {sg z : Str} {L k : Nat} (hs : Sgs k sg) (h : VwOk sg z L) : Fz 1000 0 (.str z) := by
  refine fz_str ?_
  have := StrLaws.reprText_len z fun c hc => by
    rcases h.let_ c hc with rfl | hm
    · decide
    · have := (hs.let_ c hm).2
      omega
  have l := h.l41
  have e := h.len
  have e2 : z.length = z.cps.toList.length := by show z.cps.size = _; simp
  omega
end
/-! ### list(range(..)), tuple(range(..)) -/
section
variable {X : Cx} {B : Hp} {m0 : Md} {b : Bs} {a c : Expr} {ta tb : TE} {pa pb : PTE} {p p2 pos pos2 : Pos}
theorem dqa_rg {K : PySem.W.Frag} {H : Hp} (i j : Int) : DqAll K H (rgV i j) (rngD i (j - i).toNat) := by
  unfold rgV rngD
  generalize List.range (j - i).toNat = l
  induction l with
  | nil => exact .nil
  | cons x r ih => exact .cons (.int _) ih
def RgB (i j : Int) : Prop := -1000000 ≤ i ∧ i ≤ 1000000 ∧ -1000000 ≤ j ∧ j ≤ 1000000
def pLR1 (pa : PTE) : PTL := fun env P => pa env fun x => ∃ j : Int, x = .py (.int j) ∧ RgB 0 j ∧ P (rngD 0 j.toNat)
def pLR2 (pa pb : PTE) : PTL := fun env P => pa env fun x => pb env fun y => ∃ i j : Int, x = .py (.int i) ∧ y = .py (.int j) ∧ RgB i j ∧ P (rngD i (j - i).toNat)
theorem rgok {i j : Int} (h : RgB i j) : RgOk i j := by
  obtain ⟨h1, h2, h3, h4⟩ := h
  exact ⟨by omega, by omega, by omega, by omega, by omega⟩
theorem sf_lr1 (ha : SE b ta pa) : SF b (tLstRg (tRg1 ta)) (pLR1 pa) := by
  intro W σ env H Q P hR hp k
  refine ha W σ env H _ _ hR hp fun v d H1 g1 r1 q1 => ?_
  obtain ⟨j, rfl, ok, q⟩ := q1
  cases r1.dp
  refine ⟨j, rfl, rgok ok, fun p hp => ?_⟩
  have := k p (rgV 0 j) (rngD 0 j.toNat) _ (g1.trans (.new g1.ok hp)) (g1.free hp) upd_same (by have := dqa_rg (K := b.K) (H := vw (W.m.add p) (upd H1 p (.lst (rgV 0 j)))) 0 j; rwa [Int.sub_zero] at this) q
  exact this
theorem sf_lr2 (ha : SE b ta pa) (hb : SE b tb pb) : SF b (tLstRg (tRg2 ta tb)) (pLR2 pa pb) := by
  intro W σ env H Q P hR hp k
  refine ha W σ env H _ _ hR hp fun v d H1 g1 r1 q1 => ?_
  refine hb W σ env H1 _ _ (hR.go g1) q1 fun v2 d2 H2 g2 r2 q2 => ?_
  obtain ⟨i, j, rfl, rfl, ok, q⟩ := q2
  cases (r1.mv g2.vw rfl).dp
  cases r2.dp
  refine ⟨i, j, rfl, rfl, rgok ok, fun p hp => ?_⟩
  have g := g1.trans g2
  exact k p (rgV i j) (rngD i (j - i).toNat) _ (g.trans (.new g.ok hp)) (g.free hp) upd_same (dqa_rg i j) q
theorem qf_lr1 (hc : X.calm = true) (hg : Gl X "list") (hm : X.mg "list" = none) (hg2 : Gl X "range") (hm2 : X.mg "range" = none) (ha : QE X B m0 a ta pa)
    (na : starEach [a] X.env = (false, eval a X.env) :: starEach [] X.env := by rfl) (na2 : starEach [.Call (.Name "range" p2) [a] [] pos2] X.env = (false, eval (.Call (.Name "range" p2) [a] [] pos2) X.env) :: starEach [] X.env := by rfl) :
    QF X B m0 (.Call (.Name "list" p) [.Call (.Name "range" p2) [a] [] pos2] [] pos) (tLstRg (tRg1 ta)) (pLR1 pa) := ⟨pe_listRg hc hg hm (prg_1 hg2 hm2 ha.p na) na2, sf_lr1 ha.s⟩
theorem qf_lr2 (hc : X.calm = true) (hg : Gl X "list") (hm : X.mg "list" = none) (hg2 : Gl X "range") (hm2 : X.mg "range" = none) (ha : QE X B m0 a ta pa) (hb : QE X B m0 c tb pb)
    (na : starEach [a, c] X.env = (false, eval a X.env) :: starEach [c] X.env := by rfl) (nb : starEach [c] X.env = (false, eval c X.env) :: starEach [] X.env := by rfl) (hp : (backTo pos2 (starEach [c] X.env)).any (·.1) = false := by rfl)
    (na2 : starEach [.Call (.Name "range" p2) [a, c] [] pos2] X.env = (false, eval (.Call (.Name "range" p2) [a, c] [] pos2) X.env) :: starEach [] X.env := by rfl) :
    QF X B m0 (.Call (.Name "list" p) [.Call (.Name "range" p2) [a, c] [] pos2] [] pos) (tLstRg (tRg2 ta tb)) (pLR2 pa pb) := ⟨pe_listRg hc hg hm (prg_2 hg2 hm2 ha.p hb.p na nb hp) na2, sf_lr2 ha.s hb.s⟩
variable {env : PEnv} {PL : List PyData → Prop}
def lrK (PL : List PyData → Prop) : D → Prop := fun x => ∃ j : Int, x = .py (.int j) ∧ RgB 0 j ∧ PL (rngD 0 j.toNat)
def lrK1 (pb : PTE) (env : PEnv) (PL : List PyData → Prop) : D → Prop := fun x => pb env fun y => ∃ i j : Int, x = .py (.int i) ∧ y = .py (.int j) ∧ RgB i j ∧ PL (rngD i (j - i).toNat)
def lrK2 (x : D) (PL : List PyData → Prop) : D → Prop := fun y => ∃ i j : Int, x = .py (.int i) ∧ y = .py (.int j) ∧ RgB i j ∧ PL (rngD i (j - i).toNat)
theorem w_lr1 (h : pa env (lrK PL)) : pLR1 pa env PL := h
theorem w_lr2 (h : pa env (lrK1 pb env PL)) : pLR2 pa pb env PL := h
theorem w_lrk1 {x : D} (h : pb env (lrK2 x PL)) : lrK1 pb env PL x := h
theorem w_lrk {x : D} {n : Nat} (hx : x = .py (.int (n : Int))) (h1 : n ≤ 1000) (h : PL ((List.range n).map fun k => PyData.int (k : Nat))) : lrK PL x := ⟨n, hx, ⟨by omega, by omega, by omega, by omega⟩, by rw [rng0]; exact h⟩
theorem rngN (i n : Nat) : rngD (i : Int) n = (List.range n).map fun k => PyData.int ((i + k : Nat) : Int) := by
  unfold rngD
  refine List.map_congr_left fun k _ => ?_
  rw [Int.natCast_add]
theorem w_lrk2 {x y : D} {i j : Nat} (hx : x = .py (.int (i : Int))) (hy : y = .py (.int (j : Int))) (h1 : i ≤ 1000) (h2 : j ≤ 1000) (h : PL ((List.range (j - i)).map fun k => PyData.int ((i + k : Nat) : Int))) : lrK2 x PL y := by
  refine ⟨i, j, hx, hy, ⟨by omega, by omega, by omega, by omega⟩, ?_⟩
  have e : (((j : Nat) : Int) - (i : Nat)).toNat = j - i := by omega
  rw [e, rngN]
  exact h
end
theorem w_repL1 {x y : D} {u : PyData} {n : Nat} {P : D → Prop} (hx : x = .py (.list [u])) (hy : y = .py (.int (n : Int))) (hn : n ≤ 1000) (q : P (.py (.list (List.replicate n u)))) : oRepL x y P := by
  refine ⟨[u], n, hx, hy, by simp, by simp; omega, by omega, by omega, ?_⟩
  have e : (List.replicate ((n : Int)).toNat [u]).flatten = List.replicate n u := by
    rw [Int.toNat_natCast]
    clear q hy hn
    induction n with
    | zero => rfl
    | succ n ih => rw [List.replicate_succ, List.flatten_cons, ih]; rfl
  rw [e]
  exact q
theorem zip_met (ns ms : List Int) : (ns.zip ms).map (fun p => p.1 * p.2) = metI ns ms := by
  unfold metI
  rw [List.zip, List.map_zipWith]
theorem str_len (z : Str) : z.length = z.cps.toList.length := by show z.cps.size = _; simp
/-- added up -/
theorem Rb.add {k l : Nat} {q r : Rat} (h : Rb k q) (g : Rb l r) : Rb (k + l + 1) (q + r) := by
  refine rb_of (a := q.num * r.den + r.num * q.den) (b := q.den * r.den) ?_ ?_ ?_ ?_
  · exact Int.mul_ne_zero (den_ne q) (den_ne r)
  · exact ((h.num.mul g.den).mono (Nat.le_refl _)).add ((g.num.mul h.den).mono (by omega))
  · exact (h.den.mul g.den).mono (by omega)
  · have e1 := rat_num q
    have e2 := rat_num r
    simp only [Rat.intCast_add, Rat.intCast_mul]
    grind
end VP

/-! VQ3: pieces of views; chances of lists of views -/
namespace VP
open PySem PySem.Spec PyProof.Rows L2 VB VZ VC RT
theorem cutS_upto (z : Str) (n : Nat) : (cutS z none (some (n : Int))).cps.toList = z.cps.toList.take n := by
  unfold cutS
  show ((z.cps.toList.drop _).take _) = _
  have e : z.length = z.cps.toList.length := by show z.cps.size = _; simp
  rw [HT.sIx_none, show HT.sIx z.length z.length (some (n : Int)) = min n z.length from HT.sIx_nat _ _ n, List.drop_zero, Nat.sub_zero, e]
  by_cases h : n ≤ z.cps.toList.length
  · rw [Nat.min_eq_left h]
  · rw [Nat.min_eq_right (by omega), List.take_length, List.take_of_length_le (by omega)]
theorem app_cps (x y : Str) : (x ++ y).cps.toList = x.cps.toList ++ y.cps.toList := by
  show (x.cps ++ y.cps).toList = _
  simp
theorem one_cps (a : Nat) : (⟨#[a]⟩ : Str).cps.toList = [a] := rfl
theorem w_slS {x : D} {a : Str} {lo hi : Option Int} {P : D → Prop} (hx : x = .py (.str a)) (hl : a.length ≤ sizeLine) (q : P (.py (.str (cutS a lo hi)))) : oSlS x lo hi P := ⟨a, hx, hl, q⟩
section
variable {sg x y z : Str} {L M m a : Nat}
theorem VwOk.app (hx : VwOk sg x L) (hy : VwOk sg y M) (h : L + M ≤ 41) : VwOk sg (x ++ y) (L + M) :=
  ⟨fun c hc => by rw [app_cps] at hc; exact (List.mem_append.mp hc).elim (hx.let_ c) (hy.let_ c), by rw [app_cps, List.length_append, hx.len, hy.len], h⟩
theorem vw_one (h : a = 46 ∨ a ∈ sg.cps.toList) : VwOk sg ⟨#[a]⟩ 1 := ⟨fun c hc => by rw [one_cps, List.mem_singleton] at hc; exact hc ▸ h, rfl, by decide⟩
theorem vw_nil : VwOk sg "" 0 := ⟨fun c hc => (by cases hc), rfl, by decide⟩
theorem VwOk.upto (h : VwOk sg z L) (hm : m ≤ L) : VwOk sg (cutS z none (some (m : Int))) m :=
  ⟨fun c hc => by rw [cutS_upto] at hc; exact h.let_ c (List.mem_of_mem_take hc), by rw [cutS_upto, List.length_take, h.len]; omega, Nat.le_trans hm h.l41⟩
theorem VwOk.from (h : VwOk sg z L) (m : Nat) : VwOk sg (cutS z (some (m : Int)) none) (L - m) :=
  ⟨fun c hc => by rw [cutS_from] at hc; exact h.let_ c (List.mem_of_mem_drop hc), by rw [cutS_from, List.length_drop, h.len], by have := h.l41; omega⟩
theorem VwOk.slen (h : VwOk sg z L) : z.length = L := by rw [str_len]; exact h.len
theorem VwOk.size (h : VwOk sg z L) : z.length ≤ sizeLine := by
  rw [h.slen]
  exact Nat.le_trans h.l41 (by decide)
theorem ovs_app : ovs sg (x ++ y) = ovs sg x ++ ovs sg y := by unfold ovs; rw [app_cps, List.map_append]
theorem ovs_one : ovs sg ⟨#[a]⟩ = [optS sg a] := rfl
theorem ovs_dot : ovs sg "." = [none] := rfl
theorem ovs_len (h : VwOk sg z L) : (ovs sg z).length = L := by unfold ovs; rw [List.length_map, h.len]
theorem ovs_upto : ovs sg (cutS z none (some (m : Int))) = (ovs sg z).take m := by unfold ovs; rw [cutS_upto, List.map_take]
theorem ovs_from : ovs sg (cutS z (some (m : Int)) none) = (ovs sg z).drop m := by unfold ovs; rw [cutS_from, List.map_drop]
/-- all signs, in their order -/
theorem sg_sum {k : Nat} (hs : Sgs k sg) (f : Option Nat → Rat) : (sg.cps.toList.map fun a => f (optS sg a)).sum = sumQ k fun j => f (some j) := by
  unfold sumQ
  congr 1
  refine List.ext_getElem (by simp [hs.len]) fun i h1 h2 => ?_
  have hi : i < sg.cps.toList.length := by simpa using h1
  rw [List.getElem_map, List.getElem_map, List.getElem_range]
  have hm : sg.cps.toList[i] ∈ sg.cps.toList := List.getElem_mem hi
  have e : optS sg (sg.cps.toList[i]) = some (sg.cps.toList.idxOf (sg.cps.toList[i])) := if_neg (sg_ne hs hm)
  rw [e]
  have nd : sg.cps.toList.Nodup := hs.asc.imp fun h => Nat.ne_of_lt h
  rw [nd.idxOf_getElem i hi]
end
theorem sum_flatQ {α β : Type} (g : α → List β) (f : β → Rat) : ∀ l : List α, ((l.flatMap g).map f).sum = (l.map fun x => ((g x).map f).sum).sum
  | [] => rfl
  | x :: r => by
    rw [List.flatMap_cons, List.map_append, sum_appQ, sum_flatQ g f r]
    rfl
/-- all rows of a length -/
def rowsS (sg : Str) : Nat → List Str
  | 0 => [""]
  | L + 1 => (rowsS sg L).flatMap fun s => sg.cps.toList.map fun a => s ++ ⟨#[a]⟩
theorem rowsS_len {k : Nat} {sg : Str} (hs : Sgs k sg) : ∀ L, (rowsS sg L).length = k ^ L
  | 0 => rfl
  | L + 1 => by
    show ((rowsS sg L).flatMap _).length = _
    rw [List.length_flatMap]
    have e : ((rowsS sg L).map fun s => (sg.cps.toList.map fun a => s ++ (⟨#[a]⟩ : Str)).length) = (rowsS sg L).map fun _ => k := List.map_congr_left fun s _ => by rw [List.length_map, hs.len]
    rw [e, List.map_const', List.sum_replicate_nat, rowsS_len hs L, Nat.pow_succ]
theorem rowsS_vw {sg : Str} : ∀ L, L ≤ 41 → ∀ s ∈ rowsS sg L, VwOk sg s L
  | 0, _, s, h => by
    rw [List.mem_singleton.mp h]
    exact vw_nil
  | L + 1, hl, s, h => by
    obtain ⟨s', h1, h2⟩ := List.mem_flatMap.mp h
    obtain ⟨a, ha, rfl⟩ := List.mem_map.mp h2
    exact (rowsS_vw L (by omega) s' h1).app (vw_one (.inr ha)) hl
theorem rowsS_sum {b n k : Nat} {c : Ch} (h : ChOk b n k c) : ∀ L, ((rowsS c.sg L).map fun s => chQ c n (ovs c.sg s)).sum = 1
  | 0 => by
    show (([""] : List Str).map fun s => chQ c n (ovs c.sg s)).sum = 1
    show chQ c n [] + 0 = 1
    rw [chQ_nil h]
    grind
  | L + 1 => by
    show (((rowsS c.sg L).flatMap fun s => c.sg.cps.toList.map fun a => s ++ (⟨#[a]⟩ : Str)).map fun s => chQ c n (ovs c.sg s)).sum = 1
    rw [sum_flatQ, ← rowsS_sum h L]
    refine congrArg List.sum (List.map_congr_left fun s _ => ?_)
    rw [List.map_map]
    have e := sg_sum h.sg fun o => chQ c n (ovs c.sg s ++ [o])
    rw [chQ_behind h] at e
    rw [← e]
    refine congrArg List.sum (List.map_congr_left fun a _ => ?_)
    show chQ c n (ovs c.sg (s ++ ⟨#[a]⟩)) = _
    rw [ovs_app, ovs_one]
theorem str_eq_self (S : Str) : sEq (.str S) (.str S) = true := by
  show decide (S = S) = true
  exact decide_eq_true rfl
theorem map_rD {α : Type} (f : α → Rat) (l : List α) : (l.map fun a => rD (f a)) = (l.map f).map rD := by rw [List.map_map]; rfl
theorem map_str {α : Type} (f : α → Str) (l : List α) : (l.map fun a => PyData.str (f a)) = (l.map f).map .str := by rw [List.map_map]; rfl
theorem cut1 (a b : PyData) : cutD [a, b] none (some 1) = [a] := by
  have := cutD_take [a, b] 1
  exact this
end VP

/-! VQ4: more operations: text * int -/
namespace VP
open PySem PySem.Spec PyProof.Rows L2 VB VZ VC RT
def mulS (z : Str) (n : Nat) : Str := Txt.mul z (n : Int)
theorem foldl_app (c : Array Nat) : ∀ (k : Nat) (acc : Array Nat), ((List.replicate k c).foldl (· ++ ·) acc).toList = acc.toList ++ (List.replicate k c.toList).flatten
  | 0, acc => by simp
  | k + 1, acc => by
    rw [List.replicate_succ, List.foldl_cons, foldl_app c k, List.replicate_succ, List.flatten_cons]
    simp
theorem mulS_cps (z : Str) (n : Nat) : (mulS z n).cps.toList = (List.replicate n z.cps.toList).flatten := by
  unfold mulS Txt.mul
  by_cases h : (n : Int) < 1
  · rw [if_pos h]
    have : n = 0 := by omega
    subst this
    rfl
  · rw [if_neg h]
    by_cases h2 : (((n : Int) == 1 || z.length == 0) = true)
    · rw [if_pos h2]
      rcases Bool.or_eq_true _ _ ▸ h2 with h3 | h3
      · have : n = 1 := by have := of_decide_eq_true h3; omega
        subst this
        simp
      · have e : z.cps.toList = [] := by
          have : z.length = 0 := by simpa using h3
          exact List.eq_nil_of_length_eq_zero (by rw [← str_len]; exact this)
        rw [e]
        simp
    · rw [if_neg h2]
      show ((List.replicate ((n : Int)).toNat z.cps).foldl (· ++ ·) #[]).toList = _
      rw [foldl_app, Int.toNat_natCast]
      simp
abbrev rMulS : R2 := fun x y H Q => ∃ (z : Str) (n : Nat), x = .str z ∧ y = .int (n : Int) ∧ z.length ≤ 1000 ∧ n ≤ 1000 ∧ Q (.str (mulS z n)) H
theorem op_mulS {X : Cx} : OpR X (binaryOp .Mult) rMulS := by
  intro pins s σ H x y v u Q I rx ry h
  obtain ⟨z, n, rfl, rfl, h1, h2, q⟩ := h
  obtain ⟨t, rfl⟩ := rx
  obtain ⟨t', rfl⟩ := ry
  refine SB.mul ⟨?_, ?_, ?_⟩ fun t' tk => ⟨.str (mulS z n), H, I.tok _, ⟨_, rfl⟩, q⟩
  · have a : ¬ ((n : Int) < -(2 ^ 63 : Int)) := by omega
    have b : ¬ ((n : Int) ≥ 2 ^ 63) := by omega
    rw [decide_eq_false a, decide_eq_false b]
    rfl
  · intro h3 _ h4
    have : (1000 : Int) ≤ (2 ^ 63 - 1) / (n : Int) := by
      refine (Int.le_ediv_iff_mul_le (by omega)).mpr ?_
      omega
    omega
  · intro _ _
    have : z.length * n ≤ 1000 * 1000 := Nat.mul_le_mul h1 h2
    refine decide_eq_false ?_
    rw [sizeLine_eq, Int.toNat_natCast]
    omega
def oMulS : P2 := fun x y P => ∃ (z : Str) (n : Nat), x = .py (.str z) ∧ y = .py (.int (n : Int)) ∧ z.length ≤ 1000 ∧ n ≤ 1000 ∧ P (.py (.str (mulS z n)))
theorem so_mulS {K : PySem.W.Frag} : SO K rMulS oMulS := so_flat fun m H x y dx dy Q P ho rx ry q k => by
  obtain ⟨z, n, rfl, rfl, h1, h2, h⟩ := q
  cases rx.dp
  cases ry.dp
  exact ⟨z, n, rfl, rfl, h1, h2, k _ _ (rdp (.str _)) h⟩
theorem w_mulS {x y : D} {z : Str} {n : Nat} {P : D → Prop} (hx : x = .py (.str z)) (hy : y = .py (.int (n : Int))) (h1 : z.length ≤ 1000) (h2 : n ≤ 1000) (q : P (.py (.str (mulS z n)))) : oMulS x y P := ⟨z, n, hx, hy, h1, h2, q⟩
theorem gaps_cps (n : Nat) : (mulS "." n).cps.toList = List.replicate n 46 := by
  rw [mulS_cps]
  show (List.replicate n [46]).flatten = _
  induction n with
  | zero => rfl
  | succ n ih => rw [List.replicate_succ, List.flatten_cons, ih]; rfl
theorem vw_gaps {sg : Str} {n : Nat} (h : n ≤ 41) : VwOk sg (mulS "." n) n :=
  ⟨fun a ha => by rw [gaps_cps] at ha; exact .inl (List.eq_of_mem_replicate ha), by rw [gaps_cps, List.length_replicate], h⟩
theorem ovs_gaps {sg : Str} (n : Nat) : ovs sg (mulS "." n) = List.replicate n none := by
  unfold ovs
  rw [gaps_cps, List.map_replicate]
  rfl
theorem chQ_gaps {b n k : Nat} {c : Ch} (h : ChOk b n k c) (os : List (Option Nat)) : ∀ L, chQ c n (os ++ List.replicate L none) = chQ c n os
  | 0 => by rw [List.replicate_zero, List.append_nil]
  | L + 1 => by rw [List.replicate_succ', ← List.append_assoc, chQ_gap h, chQ_gaps h os L]
end VP

/-! VQ5: lines led on; chains over given sums -/
namespace VP
open PySem PySem.Spec PyProof.Rows L2 VB VZ VC RT
/-- onward lines, the row reversed -/
def onQ (c : Ch) (n : Nat) : List (Option Nat) → Nat → Rat
  | [], u => qS c u
  | o :: r, u => sumQ n fun s => onQ c n r s * qT c s o * qP c s u
def onR (c : Ch) (n : Nat) : List (Option Nat) → Nat → Int
  | [], u => fSt c u
  | o :: r, u => sumN n fun s => onR c n r s * fTl c s o * fSp c s u
theorem onQ_eq {n : Nat} {c c' : Ch} (h : RCr n c c') (z : Nz n c) (z' : Nz n c') : ∀ (r : List (Option Nat)) (u : Nat), onQ c n r u = onQ c' n r u
  | [], u => qS_eq h z z' u
  | o :: r, u => sumQ_congr fun s hs => by rw [onQ_eq h z z' r s, qT_eq h z z' hs o, qP_eq h z z' hs u]
theorem Evn.on {n : Nat} {c : Ch} {A0 A1 A2 : Int} (h : Evn n c A0 A1 A2) : ∀ (r : List (Option Nat)), (∀ o ∈ r, o ≠ none) → ∀ u, (onR c n r u : Rat) = onQ c n r u * ((A0 * (A1 * A2) ^ r.length : Int) : Rat)
  | [], _, u => by
    show (fSt c u : Rat) = qS c u * ((A0 * (A1 * A2) ^ 0 : Int) : Rat)
    rw [h.s u, Int.pow_zero, Int.mul_one]
  | o :: r, ho, u => by
    show ((sumN n (fun s => onR c n r s * fTl c s o * fSp c s u) : Int) : Rat) = (sumQ n fun s => onQ c n r s * qT c s o * qP c s u) * _
    rw [cast_sumN, ← sumQ_mulR]
    refine sumQ_congr fun s hs => ?_
    have i := Evn.on h r (fun x hx => ho x (by simp [hx])) s
    have t := h.t hs o
    rw [if_neg (ho o (by simp))] at t
    have p := h.p hs u
    rw [Rat.intCast_mul, Rat.intCast_mul, i, t, p, List.length_cons, Int.pow_succ]
    simp only [Rat.intCast_mul]
    grind
def onL (c : Ch) (n : Nat) (r : List (Option Nat)) : List Int := (List.range n).map (onR c n r)
theorem onL_nil {n k : Nat} {c : Ch} (h : Shp n k c) : onL c n [] = c.st := (list_fun h.st).symm
theorem onL_cons {n k : Nat} {c : Ch} (h : Shp n k c) (o : Option Nat) (r : List (Option Nat)) : goneL (metI (onL c n r) (tlO c o)) c.sp n = onL c n (o :: r) := by
  have e1 : metI (onL c n r) (tlO c o) = (List.range n).map fun s => onR c n r s * fTl c s o := by
    rw [tlO_fun h o]
    exact zip_fun
  rw [e1]
  refine List.map_congr_left fun u _ => ?_
  exact told_fun h.sp u
theorem onR_bd {n k b : Nat} {c : Ch} (hc : ChOk b n k c) (b1 : 1 ≤ b) : ∀ (r : List (Option Nat)) (u : Nat), Bd ((2 * b + 3) * r.length + b) (onR c n r u)
  | [], u => (getD_bd (fun y hy => (hc.st.bd y hy).2) u : Bd b (fSt c u)).mono (by simp)
  | o :: r, u => by
    have e : (2 * b + 3) * (o :: r).length = (2 * b + 3) * r.length + (2 * b + 3) := by rw [List.length_cons]; exact Nat.mul_succ _ _
    refine Bd.mono (Bd.sum8 (k := (2 * b + 3) * r.length + b + b + b) (by have := hc.n6; simp; omega) fun x hx => ?_) (by omega)
    obtain ⟨s, _, rfl⟩ := List.mem_map.mp hx
    exact ((onR_bd hc b1 r s).mul (fTl_bd hc b1 s o)).mul (fSp_bd hc s u)
/-- shares of a line are from 0 to 1; so sizes come from one denominator -/
theorem on_rb {n k B : Nat} {c : Ch} (hc : ChOk 3 n k c) (b6 : 6 ≤ B) (e1 : (7 * n) ^ n < 2 ^ B) (e2 : (7 * k) ^ n < 2 ^ B) (r : List (Option Nat)) (ho : ∀ o ∈ r, o ≠ none) (u : Nat) : Rb ((2 * B + 3) * r.length + B) (onQ c n r u) := by
  have n6 := hc.n6
  have k5 := hc.k5
  have s1 := small_of hc.sp n6
  have s2 := small_of hc.tl (by omega)
  have l1 := lcm3 hc.sp hc.n1 e1
  have l2 := lcm3 hc.tl hc.k1 e2
  have p1 := (lcmF_props c.sp 1 s1 (by decide)).1
  have p2 := (lcmF_props c.tl 1 s2 (by decide)).1
  have ok : ChOk B n k (lwC c) := ⟨hc.n1, n6, hc.k1, k5, hc.sg, hc.st.mono (by omega), evM_tight hc.sp s1 l1, evM_tight hc.tl s2 l2⟩
  have ev := lw_evn hc s1 s2
  have e := ev.on r ho u
  rw [onQ_eq (lw_cr hc s1 s2) (nz_of (lw_ok' hc s1 s2)) (nz_of hc) r u] at e
  have pow : ∀ m : Nat, Bd (2 * B * m + 1) ((lcmF 1 c.sp * lcmF 1 c.tl) ^ m) ∧ (lcmF 1 c.sp * lcmF 1 c.tl) ^ m ≠ 0 := by
    intro m
    induction m with
    | zero => exact ⟨by rw [Int.pow_zero]; exact one_bd (by omega), by rw [Int.pow_zero]; decide⟩
    | succ m ih =>
      rw [Int.pow_succ]
      have b1 : Bd B (lcmF 1 c.sp) := bd_pos (by omega) l1
      have b2 : Bd B (lcmF 1 c.tl) := bd_pos (by omega) l2
      have e3 : 2 * B * (m + 1) = 2 * B * m + 2 * B := Nat.mul_succ _ _
      exact ⟨(ih.1.mul (b1.mul b2)).mono (by rw [e3]; omega), Int.mul_ne_zero ih.2 (Int.mul_ne_zero (by omega) (by omega))⟩
  have h0 : Bd 6 c.st.sum := (lin_sum hc.st n6).mono (by omega)
  have e4 : (2 * B + 3) * r.length = 2 * B * r.length + 3 * r.length := Nat.add_mul _ _ _
  refine rb_of (Int.mul_ne_zero ev.z0 (pow r.length).2) (onR_bd ok (by omega) r u) ?_ e
  by_cases z : r = []
  · subst z
    show Bd _ (c.st.sum * (lcmF 1 c.sp * lcmF 1 c.tl) ^ 0)
    rw [Int.pow_zero, Int.mul_one]
    exact h0.mono (by show 6 ≤ (2 * B + 3) * 0 + B; omega)
  · have : 1 ≤ r.length := by cases r with | nil => exact absurd rfl z | cons a t => simp
    refine (h0.mul (pow r.length).1).mono ?_
    omega
theorem getD_nn {l : List Int} (h : ∀ x ∈ l, 0 ≤ x) (j : Nat) : 0 ≤ l.getD j 0 := by
  rw [List.getD_eq_getElem?_getD]
  cases q : l[j]? with
  | none => exact Int.le_refl 0
  | some x => exact h x (List.mem_of_getElem? q)
theorem mtx_nn {b m N : Nat} {ls : List (List Int)} (hm : Mtx b m N ls) (s u : Nat) : 0 ≤ (ls.getD s []).getD u 0 := by
  refine getD_nn (fun x hx => ?_) u
  rw [List.getD_eq_getElem?_getD] at hx
  cases q : ls[s]? with
  | none => rw [q] at hx; cases hx
  | some l => rw [q] at hx; exact ((hm.lin l (List.mem_of_getElem? q)).bd x hx).1
theorem fTl_nn {b n k : Nat} {c : Ch} (hc : ChOk b n k c) (s : Nat) (o : Option Nat) : 0 ≤ fTl c s o := by
  cases o with
  | none => show (0 : Int) ≤ 1; decide
  | some j => exact mtx_nn hc.tl s j
theorem fSt_nn {b n k : Nat} {c : Ch} (hc : ChOk b n k c) (u : Nat) : 0 ≤ fSt c u := getD_nn (fun x hx => (hc.st.bd x hx).1) u
theorem onR_nn {b n k : Nat} {c : Ch} (hc : ChOk b n k c) : ∀ (r : List (Option Nat)) (u : Nat), 0 ≤ onR c n r u
  | [], u => fSt_nn hc u
  | o :: r, u => by
    show 0 ≤ ((List.range n).map _).sum
    refine sum_nn fun x hx => ?_
    obtain ⟨s, _, rfl⟩ := List.mem_map.mp hx
    exact Int.mul_nonneg (Int.mul_nonneg (onR_nn hc r s) (fTl_nn hc s o)) (mtx_nn hc.sp s u)
/-- lcm of a list -/
def lcmN (ns : List Int) : Int := ns.foldl lcmI 1
theorem lcmF_N (g : Int) (ls : List (List Int)) : lcmF g ls = (ls.map List.sum).foldl lcmI g := by
  unfold lcmF
  rw [List.foldl_map]
theorem lcmN_sums (ls : List (List Int)) : lcmN (ls.map List.sum) = lcmF 1 ls := (lcmF_N 1 ls).symm
theorem lcm_one {s : Int} (h : 0 < s) : lcmN [s] = s := by
  show (((1 : Int).natAbs.lcm s.natAbs : Nat) : Int) = s
  have : (1 : Int).natAbs.lcm s.natAbs = s.natAbs := by
    show Nat.lcm 1 s.natAbs = _
    rw [Nat.lcm_one_left]
  rw [this]
  omega
theorem evL_same {s : Int} {l : List Int} (e : s = l.sum) (h : 0 < s) : evL s l = l := by
  unfold evL
  subst e
  rw [Int.fdiv_self (by omega)]
  simp
/-- a chain over given sums -/
def mdC (c : Ch) (s0 s1 s2 : Int) : Ch := ⟨c.sg, evL s0 c.st, c.sp.map (evL s1), c.tl.map (evL s2)⟩
theorem md_lw {b n k : Nat} {c : Ch} (hc : ChOk b n k c) : mdC c (lcmN [c.st.sum]) (lcmN (c.sp.map List.sum)) (lcmN (c.tl.map List.sum)) = lwC c := by
  unfold mdC lwC
  rw [lcm_one hc.st.sum, evL_same rfl hc.st.sum, lcmN_sums, lcmN_sums]
  rfl
def mdD (c : Ch) : PyData := .tuple [.str c.sg, lD c.st, .list (c.sp.map lD), .list (c.tl.map lD)]
/-- pieces from the end -/
theorem cutS_but (z : Str) : (cutS z none (some (-1))).cps.toList = z.cps.toList.take (z.cps.toList.length - 1) := by
  unfold cutS
  show ((z.cps.toList.drop _).take _) = _
  have e : z.length = z.cps.toList.length := by show z.cps.size = _; simp
  have e2 : HT.sIx z.length z.length (some (-1)) = z.cps.toList.length - 1 := by
    rw [e]
    unfold HT.sIx
    simp
    omega
  rw [HT.sIx_none, e2, List.drop_zero, Nat.sub_zero]
theorem VwOk.but {sg z : Str} {L : Nat} (h : VwOk sg z L) : VwOk sg (cutS z none (some (-1))) (L - 1) :=
  ⟨fun c hc => by rw [cutS_but] at hc; exact h.let_ c (List.mem_of_mem_take hc), by rw [cutS_but, List.length_take, h.len]; omega, by have := h.l41; omega⟩
/-- rows have no gaps -/
def NoGap (z : Str) : Prop := ∀ a ∈ z.cps.toList, a ≠ 46
theorem NoGap.ovs {sg z : Str} (h : NoGap z) : ∀ o ∈ ovs sg z, o ≠ none := fun o ho => by
  obtain ⟨a, ha, rfl⟩ := List.mem_map.mp ho
  unfold optS
  rw [if_neg (h a ha)]
  intro q
  cases q
def onD (c : Ch) (n : Nat) (os : List (Option Nat)) : PyData := .tuple ((List.range n).map fun u => rD (onQ c n os.reverse u))
/-! ### walking what is a list or a tuple -/
def iSeqQ (K : PySem.W.Frag) (tl : TE) : TI := fun σ H R => tl σ H fun x H1 => ∃ a, x = .ref a ∧ ((∃ xs, SqL K H1 a xs ∧ R (Itl K a) H1) ∨ (∃ xs, SqT K H1 a xs ∧ R (Itt K a) H1))
theorem pi_seq {X : Cx} {tg l : Expr} {tl : TE} (hl : PE X l tl) : PI X tg l (iSeqQ X.K tl) := by
  refine ⟨fun pins s σ H R I h => ?_⟩
  refine thn (hl.run pins s σ H _ I h) fun v s1 ⟨x, H1, I1, r1, q1⟩ => ?_
  obtain ⟨a, e, q1⟩ := q1
  subst e
  cases r1
  rcases q1 with ⟨xs, hq, q⟩ | ⟨xs, hq, q⟩
  · obtain ⟨its, rv, p, hz⟩ := I1.list hq
    refine wpAny_pyIter_list p.isList ?_
    refine ⟨s1.heap.objs.size, [s1.heap.objs.size], _, _, H1, rfl, I1.kept (t' := s1.toks) fun b o e => Heap.get?_push_of_some _ e, turn_list a _, ⟨_, Heap.get?_push_size _ rfl, rfl, rfl⟩, fun b hb => ?_, q⟩
    have e : b = s1.heap.objs.size := by simpa using hb
    subst e
    exact I1.fpOk (Nat.le_refl _) (I1.hok.fresh (Nat.le_refl _))
  · obtain ⟨its, rv, p, hz⟩ := I1.tuple hq
    refine wpAny_pyIter_tuple (show s1.heap.IsTuple a its.toArray from p) ?_
    refine ⟨s1.heap.objs.size, [s1.heap.objs.size], _, _, H1, rfl, I1.kept (t' := s1.toks) fun b o e => Heap.get?_push_of_some _ e, turn_tuple a _, ⟨_, Heap.get?_push_size _ rfl, rfl, rfl⟩, fun b hb => ?_, q⟩
    have e : b = s1.heap.objs.size := by simpa using hb
    subst e
    exact I1.fpOk (Nat.le_refl _) (I1.hok.fresh (Nat.le_refl _))
section
variable {X : Cx} {B : Hp} {m0 : Md} {tg e : Expr} {te : TE} {pe : PTE}
def piSq (pe : PTE) : PTL := fun env P => pe env fun d => ∃ a, (d = .py (.list a) ∨ d = .py (.tuple a)) ∧ P a
theorem qi_seq {K' : PySem.W.Frag} (h : QE X B m0 e te pe) (hK : X.K = K' := by rfl) : QI X B m0 tg e (iSeqQ K' te) (piSq pe) := by
  subst hK
  exact ⟨pi_seq h.p, fun W σ env H R P hR hp k => by
  refine h.s W σ env H _ _ hR hp fun v d H1 g1 r1 q1 => ?_
  obtain ⟨a, rfl | rfl, q⟩ := q1
  · obtain ⟨p1, vs, rfl, e1, a1⟩ := dq_lst r1.dp
    exact ⟨p1, rfl, .inl ⟨vs, SqL.of (vw_sub _ _ e1), k _ _ H1 g1 (it_lst e1 a1) q⟩⟩
  · obtain ⟨p1, vs, rfl, e1, a1⟩ := dq_tup r1.dp
    exact ⟨p1, rfl, .inr ⟨vs, seqT_same vw_sub e1, k _ _ H1 g1 (it_tup e1 a1) q⟩⟩⟩
def iSqK (P : List PyData → Prop) : D → Prop := fun d => ∃ a, (d = .py (.list a) ∨ d = .py (.tuple a)) ∧ P a
theorem w_iSq {env : PEnv} {PD : List PyData → Prop} (h : pe env (iSqK PD)) : piSq pe env PD := h
theorem w_iSqk {p : PyData} {ns : List Int} {PD : List PyData → Prop} (hx : isInts p ns) (h : PD (ns.map .int)) : iSqK PD (.py p) := by
  rcases hx with rfl | rfl
  · exact ⟨_, .inl rfl, h⟩
  · exact ⟨_, .inr rfl, h⟩
theorem w_sumI {p : PyData} {ns : List Int} {P : D → Prop} (hx : isInts p ns) (q : P (.py (.int ns.sum))) : oSum [.py p] P := by
  rcases hx with rfl | rfl
  · exact w_sumL rfl q
  · exact w_sumT rfl q
end
/-! ### texts of drawn signs -/
theorem w_joinSg {as : List Nat} {Q : D → Prop} (hl : as.length ≤ 1000) (q : ∀ z : Str, z.cps.toList = as → Q (.py (.str z))) : jnK2 "" Q (.py (.list (as.map sgD))) := by
  have e : as.map sgD = (as.map sg1).map PyData.str := by rw [List.map_map]; rfl
  rw [e]
  refine w_jnk2 rfl ?_ (q _ (join_cps as))
  have e1 : ∀ l : List Nat, ((l.map sg1).map fun x => x.length).sum = l.length := by
    intro l
    induction l with
    | nil => rfl
    | cons a r ih => rw [List.map_cons, List.map_cons, List.sum_cons, ih, List.length_cons]; show 1 + r.length = _; omega
  rw [e1]
  show as.length + _ * 0 ≤ 16777216
  omega
theorem sgs_of {z : Str} {cs : List Nat} {k : Nat} (e : z.cps.toList = cs) (h1 : cs.length = k) (h2 : (cs.all fun c => 97 ≤ c && c ≤ 122) = true) (h3 : cs.Pairwise (· < ·)) : Sgs k z := by
  refine ⟨by rw [e]; exact h1, fun c hc => ?_, by rw [e]; exact h3⟩
  rw [e] at hc
  have := List.all_eq_true.mp h2 c hc
  simp at this
  exact this
theorem sgs_ab : Sgs 2 "ab" := sgs_of (cs := [97, 98]) (by rfl) rfl rfl (by decide)
theorem sgs_abc : Sgs 3 "abc" := sgs_of (cs := [97, 98, 99]) (by rfl) rfl rfl (by decide)
theorem sgs_bz : Sgs 2 "bz" := sgs_of (cs := [98, 122]) (by rfl) rfl rfl (by decide)
theorem sgs_z : Sgs 1 "z" := sgs_of (cs := [122]) (by rfl) rfl rfl (by decide)
theorem sgs_abcde : Sgs 5 "abcde" := sgs_of (cs := [97, 98, 99, 100, 101]) (by rfl) rfl rfl (by decide)
theorem pick_nat {ns : List Nat} {z : PyData} (h : z ∈ ns.map fun (n : Nat) => PyData.int (n : Int)) : ∃ n : Nat, z = .int (n : Nat) ∧ n ∈ ns := by
  obtain ⟨n, h1, rfl⟩ := List.mem_map.mp h
  exact ⟨n, rfl, h1⟩
theorem nat_of {r : Int} (h : 0 ≤ r) : ∃ m : Nat, r = (m : Nat) := ⟨r.toNat, by omega⟩
end VP

/-! VQ6: chains behind views -/
namespace VP
open PySem PySem.Spec PyProof.Rows L2 VB VZ VC RT
def dnR (A0 A1 A2 : Int) : List (Option Nat) → Int
  | [] => A0
  | o :: r => dnR A0 A1 A2 r * (A1 * (if o = none then 1 else A2))
theorem dnR_pos {A0 A1 A2 : Int} (h0 : 0 < A0) (h1 : 0 < A1) (h2 : 0 < A2) : ∀ r, 0 < dnR A0 A1 A2 r
  | [] => h0
  | o :: r => Int.mul_pos (dnR_pos h0 h1 h2 r) (Int.mul_pos h1 (by split <;> omega))
theorem Evn.on' {n : Nat} {c : Ch} {A0 A1 A2 : Int} (h : Evn n c A0 A1 A2) : ∀ (r : List (Option Nat)) (u : Nat), (onR c n r u : Rat) = onQ c n r u * (dnR A0 A1 A2 r : Rat)
  | [], u => h.s u
  | o :: r, u => by
    show ((sumN n (fun s => onR c n r s * fTl c s o * fSp c s u) : Int) : Rat) = (sumQ n fun s => onQ c n r s * qT c s o * qP c s u) * ((dnR A0 A1 A2 r * (A1 * (if o = none then 1 else A2)) : Int) : Rat)
    rw [cast_sumN, ← sumQ_mulR]
    refine sumQ_congr fun s hs => ?_
    have i := Evn.on' h r s
    have t := h.t hs o
    have p := h.p hs u
    rw [Rat.intCast_mul, Rat.intCast_mul, i, t, p, Rat.intCast_mul, Rat.intCast_mul]
    grind
theorem onL_leq {n : Nat} {c d : Ch} {A0 A1 A2 B0 B1 B2 : Int} (h : Evn n c A0 A1 A2) (g : Evn n d B0 B1 B2) (r : RCr n c d) (zc : Nz n c) (zd : Nz n d) (a0 : 0 < A0) (a1 : 0 < A1) (a2 : 0 < A2) (b0 : 0 < B0) (b1 : 0 < B1) (b2 : 0 < B2) (v : List (Option Nat)) : LEq (onL c n v) (onL d n v) := by
  refine ⟨dnR B0 B1 B2 v, dnR A0 A1 A2 v, dnR_pos b0 b1 b2 v, dnR_pos a0 a1 a2 v, ?_⟩
  unfold onL
  rw [List.map_map, List.map_map]
  refine List.map_congr_left fun u _ => ?_
  show onR c n v u * dnR B0 B1 B2 v = onR d n v u * dnR A0 A1 A2 v
  apply Rat.intCast_inj.mp
  rw [Rat.intCast_mul, Rat.intCast_mul, h.on', g.on', onQ_eq r zc zd]
  grind
theorem leq_same {a b : List Int} (h : LEq a b) (ha : 0 < a.sum) (hb : 0 < b.sum) : plL a = plL b := by
  obtain ⟨i, j, hi, hj, e⟩ := h
  rw [← plL_mul ha hi, e, plL_mul hb hj]
theorem leq_zero {a b : List Int} (h : LEq a b) : a.sum = 0 ↔ b.sum = 0 := by
  obtain ⟨i, j, hi, hj, e⟩ := h
  have e2 : a.sum * i = b.sum * j := by
    have := congrArg List.sum e
    rwa [sum_mul, sum_mul] at this
  constructor
  · intro z
    rw [z, Int.zero_mul] at e2
    exact (Int.mul_eq_zero.mp e2.symm).resolve_right (by omega)
  · intro z
    rw [z, Int.zero_mul] at e2
    exact (Int.mul_eq_zero.mp e2).resolve_right (by omega)
/-- the parts behind a view -/
def nxL (c : Ch) (n : Nat) (os : List (Option Nat)) : List Int := onL (evC c) n os.reverse
def bvC (c : Ch) (n : Nat) (os : List (Option Nat)) : Ch := ⟨c.sg, plL (nxL c n os), c.sp.map plL, c.tl.map plL⟩
def dueB (c : Ch) (n : Nat) (os : List (Option Nat)) : PyData := if (nxL c n os).sum = 0 then .none else chD (bvC c n os)
theorem nxL_len {c : Ch} {n : Nat} {os : List (Option Nat)} : (nxL c n os).length = n := by unfold nxL onL; simp
theorem onL_nn {b n k : Nat} {c : Ch} (hc : ChOk b n k c) (r : List (Option Nat)) : ∀ x ∈ onL c n r, 0 ≤ x := fun x hx => by
  obtain ⟨u, _, rfl⟩ := List.mem_map.mp hx
  exact onR_nn hc r u
theorem mtx_bd {b m N : Nat} {ls : List (List Int)} (hm : Mtx b m N ls) (s u : Nat) : Bd b ((ls.getD s []).getD u 0) := by
  refine getD_bd (fun x hx => ?_) u
  rw [List.getD_eq_getElem?_getD] at hx
  cases q : ls[s]? with
  | none => rw [q] at hx; cases hx
  | some l => rw [q] at hx; exact ((hm.lin l (List.mem_of_getElem? q)).bd x hx).2
/-- sizes, start and steps apart -/
theorem onR_bd2 {n k b b0 B : Nat} {c : Ch} (hc : ChOk b n k c) (b1 : 1 ≤ B) (h0 : ∀ x ∈ c.st, Bd b0 x) (hp : Mtx B n n c.sp) (ht : Mtx B n k c.tl) : ∀ (r : List (Option Nat)) (u : Nat), Bd ((2 * B + 3) * r.length + b0) (onR c n r u)
  | [], u => (getD_bd h0 u : Bd b0 (fSt c u)).mono (by simp)
  | o :: r, u => by
    have e : (2 * B + 3) * (o :: r).length = (2 * B + 3) * r.length + (2 * B + 3) := by rw [List.length_cons]; exact Nat.mul_succ _ _
    have ft : ∀ s, Bd B (fTl c s o) := fun s => by
      cases o with
      | none => exact one_bd b1
      | some j => exact mtx_bd ht s j
    refine Bd.mono (Bd.sum8 (k := (2 * B + 3) * r.length + b0 + B + B) (by have := hc.n6; simp; omega) fun x hx => ?_) (by omega)
    obtain ⟨s, _, rfl⟩ := List.mem_map.mp hx
    exact ((onR_bd2 hc b1 h0 hp ht r s).mul (ft s)).mul (mtx_bd hp s u)
structure Tg (c : Ch) (n k b0 B : Nat) : Prop where
  st : ∀ x ∈ (evC c).st, Bd b0 x
  sp : Mtx B n n (evC c).sp
  tl : Mtx B n k (evC c).tl
  b1 : 1 ≤ B
theorem nxL_bd {n k b b0 B : Nat} {c : Ch} (hc : ChOk b n k (evC c)) (t : Tg c n k b0 B) (os : List (Option Nat)) : ∀ x ∈ nxL c n os, Bd ((2 * B + 3) * os.length + b0) x := fun x hx => by
  obtain ⟨u, _, rfl⟩ := List.mem_map.mp hx
  have := onR_bd2 hc t.b1 t.st t.sp t.tl os.reverse u
  rwa [List.length_reverse] at this
/-- a beginning more -/
theorem onR_more (c : Ch) (n : Nat) (r1 : List (Option Nat)) (L : List Int) (hL : ∀ u, u < n → L.getD u 0 = onR c n r1 u) : ∀ (r2 : List (Option Nat)) (u : Nat), u < n → onR ⟨c.sg, L, c.sp, c.tl⟩ n r2 u = onR c n (r2 ++ r1) u
  | [], u, hu => hL u hu
  | o :: r, u, hu => by
    show sumN n _ = sumN n _
    unfold sumN
    refine congrArg List.sum (List.map_congr_left fun s hs => ?_)
    have e := onR_more c n r1 L hL r s (List.mem_range.mp hs)
    show onR ⟨c.sg, L, c.sp, c.tl⟩ n r s * fTl c s o * fSp c s u = onR c n (r ++ r1) s * fTl c s o * fSp c s u
    rw [e]
theorem onR_times (sg : Str) (L : List Int) (sp tl : List (List Int)) (n : Nat) (g : Int) : ∀ (r : List (Option Nat)) (u : Nat), onR ⟨sg, L.map (· * g), sp, tl⟩ n r u = onR ⟨sg, L, sp, tl⟩ n r u * g
  | [], u => getD_map0 (f := (· * g)) (Int.zero_mul g) L u
  | o :: r, u => by
    show sumN n _ = sumN n _ * g
    unfold sumN
    rw [← sum_map_mulR]
    refine congrArg List.sum (List.map_congr_left fun s hs => ?_)
    rw [onR_times sg L sp tl n g r s]
    show onR ⟨sg, L, sp, tl⟩ n r s * g * fTl ⟨sg, L, sp, tl⟩ s o * fSp ⟨sg, L, sp, tl⟩ s u = onR ⟨sg, L, sp, tl⟩ n r s * fTl ⟨sg, L, sp, tl⟩ s o * fSp ⟨sg, L, sp, tl⟩ s u * g
    grind
theorem map_plL_idem {b r n : Nat} {ls : List (List Int)} (h : Mtx b r n ls) : (ls.map plL).map plL = ls.map plL := by
  rw [List.map_map]
  exact List.map_congr_left fun l hl => plL_idem (h.lin l hl).sum
theorem evC_bv {b n k : Nat} {c : Ch} (hc : ChOk b n k c) {os : List (Option Nat)} (h : 0 < (nxL c n os).sum) : evC (bvC c n os) = ⟨c.sg, plL (nxL c n os), (evC c).sp, (evC c).tl⟩ := by
  unfold evC bvC
  simp only
  rw [plL_idem h, map_plL_idem hc.sp, map_plL_idem hc.tl]
theorem nxL_bv {b n k : Nat} {c : Ch} (hc : ChOk b n k c) {os1 os2 : List (Option Nat)} (h : 0 < (nxL c n os1).sum) : nxL c n (os1 ++ os2) = (nxL (bvC c n os1) n os2).map (· * gcdL (nxL c n os1)) := by
  have e1 : nxL (bvC c n os1) n os2 = onL ⟨c.sg, plL (nxL c n os1), (evC c).sp, (evC c).tl⟩ n os2.reverse := by
    unfold nxL
    rw [evC_bv hc h]
    rfl
  rw [e1]
  unfold onL
  rw [List.map_map]
  have e2 : nxL c n (os1 ++ os2) = (List.range n).map (onR (evC c) n (os2.reverse ++ os1.reverse)) := by
    unfold nxL onL
    rw [List.reverse_append]
  rw [e2]
  refine List.map_congr_left fun u hu => ?_
  have m1 := onR_more (evC c) n os1.reverse (nxL c n os1) (fun u hu => by
    unfold nxL onL
    exact getD_of (by rw [List.getElem?_map, List.getElem?_range hu]; rfl)) os2.reverse u (List.mem_range.mp hu)
  rw [← m1]
  have m2 := onR_times (evC c).sg (plL (nxL c n os1)) (evC c).sp (evC c).tl n (gcdL (nxL c n os1)) os2.reverse u
  rw [plL_back] at m2
  exact m2
theorem nxL_zero {c : Ch} {n : Nat} (hn : ∀ r u, 0 ≤ onR (evC c) n r u) {os1 os2 : List (Option Nat)} (h : (nxL c n os1).sum = 0) : (nxL c n (os1 ++ os2)).sum = 0 := by
  have z1 : ∀ u, u < n → onR (evC c) n os1.reverse u = 0 := fun u hu => by
    have : ∀ {l : List Int}, (∀ x ∈ l, 0 ≤ x) → l.sum = 0 → ∀ x ∈ l, x = 0 := by
      intro l
      induction l with
      | nil => intro _ _ x hx; cases hx
      | cons a t ih =>
        intro h e x hx
        rw [List.sum_cons] at e
        have a0 := h a (by simp)
        have t0 := sum_nn (ns := t) fun y hy => h y (by simp [hy])
        rcases List.mem_cons.mp hx with rfl | hx
        · omega
        · exact ih (fun y hy => h y (by simp [hy])) (by omega) x hx
    exact this (fun x hx => by obtain ⟨u, _, rfl⟩ := List.mem_map.mp hx; exact hn _ u) h _ (List.mem_map.mpr ⟨u, List.mem_range.mpr hu, rfl⟩)
  have z2 : ∀ (r2 : List (Option Nat)) u, u < n → onR (evC c) n (r2 ++ os1.reverse) u = 0 := by
    intro r2
    induction r2 with
    | nil => exact z1
    | cons o r ih =>
      intro u hu
      show ((List.range n).map fun s => onR (evC c) n (r ++ os1.reverse) s * fTl (evC c) s o * fSp (evC c) s u).sum = 0
      have e : ((List.range n).map fun s => onR (evC c) n (r ++ os1.reverse) s * fTl (evC c) s o * fSp (evC c) s u) = (List.range n).map fun _ => 0 := List.map_congr_left fun s hs => by rw [ih s (List.mem_range.mp hs)]; simp
      rw [e]
      clear e
      induction n with
      | zero => rfl
      | succ n _ => simp [List.map_const']
  show ((List.range n).map _).sum = 0
  rw [List.reverse_append]
  have e : (List.range n).map (onR (evC c) n (os2.reverse ++ os1.reverse)) = (List.range n).map fun _ => 0 := List.map_congr_left fun s hs => z2 _ s (List.mem_range.mp hs)
  rw [e]
  simp [List.map_const']
/-- sums of what is led on -/
theorem gone_sum {n : Nat} {f : List Int} {ls : List (List Int)} {A : Int} (hf : f.length = n) (hl : ls.length = n) (h1 : ∀ l ∈ ls, l.length = n ∧ l.sum = A) : (goneL f ls n).sum = f.sum * A := by
  have e : goneL f ls n = (List.range n).map fun u => sumN n fun s => f.getD s 0 * (ls.getD s []).getD u 0 := by
    unfold goneL
    refine List.map_congr_left fun u _ => ?_
    have := told_fun (f := fun s => f.getD s 0) hl u
    rwa [← list_fun hf] at this
  rw [e]
  show ((List.range n).map fun u => ((List.range n).map fun s => f.getD s 0 * (ls.getD s []).getD u 0).sum).sum = _
  rw [sum_swap]
  conv => rhs; rw [list_fun hf]
  rw [← sum_map_mulR]
  refine congrArg List.sum (List.map_congr_left fun s hs => ?_)
  rw [sum_map_mul]
  congr 1
  have hs' : s < ls.length := by rw [hl]; exact List.mem_range.mp hs
  rw [getD_of (List.getElem?_eq_getElem hs')]
  obtain ⟨l1, l2⟩ := h1 _ (List.getElem_mem hs')
  conv => rhs; rw [← l2, list_fun l1]
theorem ev_pos {b n k : Nat} {c : Ch} (hc : ChOk b n k c) (s1 : Small (c.sp.map plL)) (s2 : Small (c.tl.map plL)) : 0 < (evC c).st.sum ∧ 0 < ((evC c).sp.headD []).sum ∧ 0 < ((evC c).tl.headD []).sum := by
  have hE := evC_ok hc s1 s2
  obtain ⟨r0, er0, er1, er2⟩ := head_of hE.sp.len hE.n1
  obtain ⟨t0, et0, et1, et2⟩ := head_of hE.tl.len hE.n1
  rw [er1, et1]
  exact ⟨hE.st.sum, (hE.sp.lin _ er2).sum, (hE.tl.lin _ et2).sum⟩
end VP

namespace L2
open PySem PySem.Spec PyProof.Rows
theorem tuple_mul1 (l : Addr) (items : Array Value) (n : Nat) (dd : Option Addr) (sl : Array (Option Value)) (u : Tok) :
    Meets (Builtin.«tuple.__mul__» ⟨[.ref l, .int 1 u], []⟩) (fun _ R s => s.heap.get? l = some { cls := .type "tuple", dict := dd, data := .seq items n, slots := sl } ∧
      R (.ok (.ret (Value.ref l))) s) :=
  .of_wp fun prog w A R s h => by
    obtain ⟨hp, g, d, tk, os⟩ := s
    obtain ⟨hl, h⟩ := h
    have f1 := AutoSeq1.idx_int
    have c1 : (items.isEmpty || (1 : Int) == 1) = true := by rw [Bool.or_eq_true]; exact .inr rfl
    wp_walk using wpAny_loadPart' hl
    exact ⟨_, rfl, h⟩
/-- tuple * k, k from 1 on: for 1 it is the tuple itself -/
def rRepT1 (K : PySem.W.Frag) : R2 := fun x y H Q => ∃ l xs, x = .ref l ∧ y = .int 1 ∧ SqT K H l xs ∧ Q (.ref l) H
def rRepU (K : PySem.W.Frag) : R2 := fun x y H Q => rRepT K x y H Q ∨ rRepT1 K x y H Q
section
variable {X : Cx}
theorem op_repT1 : OpR X (binaryOp .Mult) (rRepT1 X.K) := by
  intro pins s σ H x y v u Q I rx ry h
  obtain ⟨l, xs, rfl, rfl, hT, q⟩ := h
  cases rx
  obtain ⟨t, rfl⟩ := ry
  obtain ⟨its, r, ⟨⟨cls, dd, data, sl⟩, ho, hc, n, hd⟩, hs⟩ := I.tuple hT
  simp only at hc hd
  subst hc hd
  refine wpAny_binaryOp_repeat_ref (T := "tuple") (U := "int") (by decide) ⟨_, ho, rfl⟩ (fun s' => typeIs_int s' 1 t) noFill_tuple_mul F.fills_int_mul F.slot_int_rmul repeat_tuple F.slot_int_index.lookup
    (call_meets F.slot_int_rmul (typeIs_int s 1 t) F.entry_int_rmul (F.args_int_rmul_2 _ _) (int_rmul_tuple 1 t l its.toArray n dd sl)
      ⟨ho, rfl, ⟨_, ho, rfl⟩, call_meets F.slot_tuple_mul ⟨_, ho, rfl⟩ F.entry_tuple_mul (F.args_tuple_mul_2 _ _) (tuple_mul1 l its.toArray n dd sl t) ⟨ho, ?_⟩⟩)
  exact ⟨.ref l, H, I, rfl, q⟩
theorem op_repU : OpR X (binaryOp .Mult) (rRepU X.K) := by
  intro pins s σ H x y v u Q I rx ry h
  rcases h with h | h
  · exact op_repT pins s σ H x y v u Q I rx ry h
  · exact op_repT1 pins s σ H x y v u Q I rx ry h
end
end L2
namespace VP
open PySem PySem.Spec PyProof.Rows L2 VB VZ VC RT
def oRepU : P2 := fun x y P => ∃ a n, x = .py (.tuple a) ∧ y = .py (.int n) ∧ a ≠ [] ∧ 1 ≤ n ∧ n ≤ 1000 ∧ a.length ≤ 1000 ∧ P (.py (.tuple (List.replicate n.toNat a).flatten))
theorem so_repU {K : PySem.W.Frag} : SO K (rRepU K) oRepU := fun m H x y dx dy Q P ho rx ry q k => by
  obtain ⟨a, n, rfl, rfl, c, n1, n2, c2, h⟩ := q
  obtain ⟨p1, xs, rfl, e1, a1⟩ := dq_tup rx.dp
  cases ry.dp
  by_cases e : n = 1
  · subst e
    refine .inr ⟨p1, xs, rfl, rfl, seqT_same vw_sub e1, ?_⟩
    have ea : (List.replicate (1 : Int).toNat a).flatten = a := by simp
    rw [ea] at h
    exact k _ _ _ (.refl ho) rx h
  · refine .inl ⟨p1, n, xs, rfl, rfl, seqT_same vw_sub e1, fun z => c (by rw [z] at a1; cases a1; rfl), by omega, n2, by rw [dqa_len a1]; exact c2, fun p hp => ?_⟩
    have g : Go m H (upd H p (.tup (List.replicate n.toNat xs).flatten)) := .new ho hp
    exact k _ _ _ g (rdp (.tup (SqT.of (vw_new ho hp)) ((dqa_rep _ a1).mv g.vw))) h
end VP

/-! VQ8: what is never reached needs no reading -/
namespace VP
open PySem PySem.Spec PyProof.Rows L2 VB VZ VC RT
section
variable {X : Cx} {B : Hp} {m0 : Md} {st : Stmt} {e : Expr}
def tNever : TS := fun _ _ _ => False
def pNever : PTS := fun _ _ => False
theorem qs_never : QS X B m0 st tNever pNever := ⟨⟨fun _ _ _ _ _ _ h => h.elim⟩, fun _ _ _ _ _ _ _ _ _ _ hp => hp.elim⟩
def eNever : TE := fun _ _ _ => False
def peNever : PTE := fun _ _ => False
theorem qe_never : QE X B m0 e eNever peNever := ⟨⟨fun _ _ _ _ _ _ h => h.elim⟩, fun _ _ _ _ _ _ _ hp => hp.elim⟩
end
/-! the lesser, the greater of two integers -/
def oMin2 : PC := fun ds P => ∃ i j : Int, ds = [.py (.int i), .py (.int j)] ∧ P (.py (.int (if j < i then j else i)))
theorem sc_min2 {K : PySem.W.Frag} : SC K (fun xs H Q => ∃ i j : Int, xs = [V.int i, V.int j] ∧ Q (V.int (if j < i then j else i)) H) oMin2 := sc_flat fun m H xs ds Q P ho rx q k => by
  obtain ⟨i, j, rfl, h⟩ := q
  obtain ⟨v, w, rfl, r1, r2⟩ := rds2 rx
  cases r1.dp
  cases r2.dp
  exact ⟨i, j, rfl, k _ _ (rdp (.int _)) h⟩
def oMax2 : PC := fun ds P => ∃ i j : Int, ds = [.py (.int i), .py (.int j)] ∧ P (.py (.int (if j > i then j else i)))
theorem sc_max2 {K : PySem.W.Frag} : SC K (fun xs H Q => ∃ i j : Int, xs = [V.int i, V.int j] ∧ Q (V.int (if j > i then j else i)) H) oMax2 := sc_flat fun m H xs ds Q P ho rx q k => by
  obtain ⟨i, j, rfl, h⟩ := q
  obtain ⟨v, w, rfl, r1, r2⟩ := rds2 rx
  cases r1.dp
  cases r2.dp
  exact ⟨i, j, rfl, k _ _ (rdp (.int _)) h⟩
end VP

/-! VQ9: sorted(set(t)), sorted(ints), t.index(i) -/
namespace L2
open PySem PySem.Spec PyProof.Rows
section
variable {X : Cx}
/-- sorted(set(t)), t a tuple of ints -/
def tSrtSet (K : PySem.W.Frag) (ta : TE) : TE := fun σ H Q => ta σ H fun x H1 => ∃ (l : Addr) (ns : List Int), x = V.ref l ∧ SqT K H1 l (ns.map V.int) ∧ ns.length < 60 ∧
  ∀ (out : List Int) (p : Addr), out.Pairwise (· < ·) → (∀ k, k ∈ out ↔ k ∈ ns) → H1 p = none → Q (.ref p) (upd H1 p (.lst (out.map V.int)))
theorem pe_srtSet {a : Expr} {ta : TE} {p p2 q pos : Pos} (hc : X.calm = true) (hg : Gl X "sorted") (hm : X.mg "sorted" = none) (hg2 : Gl X "set") (hm2 : X.mg "set" = none) (ha : PE X a ta)
    (na : starEach [a] X.env = (false, eval a X.env) :: starEach [] X.env := by rfl) (nb : starEach [.Call (.Name "set" p2) [a] [] q] X.env = (false, eval (.Call (.Name "set" p2) [a] [] q) X.env) :: starEach [] X.env := by rfl) :
    PE X (.Call (.Name "sorted" p) [.Call (.Name "set" p2) [a] [] q] [] pos) (tSrtSet X.K ta) := by
  refine ⟨fun pins s σ H Q I h => ?_⟩
  refine Call_ (ld_blt I hg hm PyProof.Rows.boot_sorted ?_)
  refine PyProof.Rows.callWith_builtin1 (PyProof.Rows.args_cons ?_ nb) nb rfl
  refine Call_ (ld_blt I hg2 hm2 PyProof.Rows.boot_set ?_)
  refine PyProof.Rows.callWith_type1 (PyProof.Rows.args_cons (thn (ha.run pins s σ H _ I h) fun v s1 ⟨x, H1, I1, r1, w1⟩ => PyProof.Rows.args_nil ?_) na) na rfl
  obtain ⟨l, ns, rfl, hs, h60, q1⟩ := w1
  cases r1
  obtain ⟨its, r, pt, hz⟩ := I1.tuple hs
  have hi : IntsAre its.toArray.toList ns := ints_of_vals r
  have hd := I1.ok.hd hc
  refine call_set_tupI ns hd (show s1.heap.IsTuple l its.toArray from pt) hi (by unfold scanBound; omega) fun h1 tk n R hn k1 => ?_
  refine PyProof.Rows.args_nil ?_
  refine sorted_set (s := { s1 with heap := h1, toks := tk }) R hd (by omega) fun s' p out c ys k g o hp hgt hin hst hmm hlen => ?_
  have hlt : s1.heap.objs.size ≤ p := by
    obtain ⟨ob, _, _, _, hob, _⟩ := R
    have a1 : s1.heap.objs.size < h1.objs.size := Heap.lt_size hob
    have a2 : h1.objs.size ≤ p := hp
    omega
  have e0 : H1 p = none := I1.hok.fresh hlt
  have kk : ∀ b u, s1.heap.get? b = some u → s'.heap.get? b = some u := fun b u e => k b u (k1 b u e)
  have hsz : (ys.map V.int).length ≤ sizeLine := by rw [List.length_map, hlen, sizeLine_eq]; omega
  have J : Inv X pins σ (upd H1 p (.lst (ys.map V.int))) { s1 with heap := s'.heap, gens := s'.gens, drawn := s'.drawn, toks := s'.toks } :=
    I1.call (ch := []) (Un.laid kk hlt e0) (I1.hok.laid kk hlt ⟨hsz, out.toList, c, vals_of_ints hin, hgt⟩) (by rw [g]; exact I1.bare) (fun _ z => nomatch z)
  have e : s' = { s1 with heap := s'.heap, gens := s'.gens, drawn := s'.drawn, toks := s'.toks } := by
    cases s'
    cases s1
    cases o
    rfl
  rw [e]
  refine ⟨.ref p, _, J, rfl, q1 ys p hst (fun k => ?_) e0⟩
  rw [hmm k, decide_eq_true_eq]
/-- t.index(i) -/
theorem mt_tidxI : MtR X "tuple.index" (fun x xs H Q => ∃ p, ∃ ys : List Int, ∃ z, x = .ref p ∧ xs = [.int z] ∧ SqT X.K H p (ys.map V.int) ∧ z ∈ ys ∧ Q (.int (ys.idxOf z : Nat)) H) := by
  intro pins s σ H x xs v us Q I rx rs h
  obtain ⟨p, ys, z, rfl, rfl, hq, hy, q⟩ := h
  cases rx
  obtain ⟨u, rfl, t, rfl⟩ := vals1 rs
  obtain ⟨its, r, pl, hz⟩ := I.tuple hq
  have hi : IntsAre its ys := by have := ints_of_vals r; simpa using this
  have sz : its.length = ys.length := hi.length
  refine SeqAt.call_tuple_index (vs := its) (ks := ys) (k := z) (show s.heap.IsTuple p its.toArray from pl) ⟨sz, fun j h1 h2 => ?_⟩ hy ⟨.int (ys.idxOf z : Nat), H, I.tok _, ⟨_, rfl⟩, q⟩
  obtain ⟨u, e⟩ := IntsAre.int_at hi j its[j] (List.getElem?_eq_getElem h1)
  have e2 : ys.getD j 0 = ys[j] := by rw [List.getD_eq_getElem?_getD, List.getElem?_eq_getElem h2]; rfl
  rw [e, e2]
  have := SeqAt.EqAt.int_int (A := X.A.in1) (s := s) ys[j] u z t
  have e3 : (ys[j] == z) = decide (ys[j] = z) := rfl
  rw [e3] at this
  exact this
end
end L2
namespace VP
open PySem PySem.Spec PyProof.Rows L2 VB VZ VC RT
section
variable {X : Cx} {B : Hp} {m0 : Md} {b : Bs} {a e o : Expr} {te to : TE} {pe po : PTE} {p p2 pos pos2 apos : Pos}
def srtK (P : List PyData → Prop) : D → Prop := fun d => ∃ ns : List Int, d = .py (.tuple (ns.map .int)) ∧ ns.length < 60 ∧ ∀ out : List Int, out.Pairwise (· < ·) → (∀ k, k ∈ out ↔ k ∈ ns) → P (out.map .int)
def pSrtSet (pe : PTE) : PTL := fun env P => pe env (srtK P)
theorem sf_srtSet (h : SE b te pe) : SF b (tSrtSet b.K te) (pSrtSet pe) := by
  intro W σ env H Q P hR hp k
  refine h W σ env H _ _ hR hp fun v d H1 g1 r1 q1 => ?_
  obtain ⟨ns, rfl, hl, q⟩ := q1
  obtain ⟨l, xs, rfl, e1, a1⟩ := dq_tup r1.dp
  rw [dqa_ints_inv a1] at e1
  refine ⟨l, ns, rfl, seqT_same vw_sub e1, hl, fun out p h1 h2 hp => ?_⟩
  exact k p _ _ _ (g1.trans (.new g1.ok hp)) (g1.free hp) upd_same (dqa_ints out) (q out h1 h2)
theorem qf_srtSet {K' : PySem.W.Frag} (hc : X.calm = true) (hg : Gl X "sorted") (hm : X.mg "sorted" = none) (hg2 : Gl X "set") (hm2 : X.mg "set" = none) (ha : QE X B m0 a te pe) (hK : X.K = K' := by rfl)
    (na : starEach [a] X.env = (false, eval a X.env) :: starEach [] X.env := by rfl) (nb : starEach [.Call (.Name "set" p2) [a] [] pos2] X.env = (false, eval (.Call (.Name "set" p2) [a] [] pos2) X.env) :: starEach [] X.env := by rfl) :
    QF X B m0 (.Call (.Name "sorted" p) [.Call (.Name "set" p2) [a] [] pos2] [] pos) (tSrtSet K' te) (pSrtSet pe) := by
  subst hK
  exact ⟨pe_srtSet hc hg hm hg2 hm2 ha.p na nb, sf_srtSet (b := bs X B m0) ha.s⟩
theorem w_srtSet {env : PEnv} {P : List PyData → Prop} (h : pe env (srtK P)) : pSrtSet pe env P := h
/-- sorted(ints) -/
def oSortI : PCL := fun ds P => ∃ ns : List Int, (ds = [.py (.list (ns.map .int))] ∨ ds = [.py (.tuple (ns.map .int))]) ∧ ∀ ys : List Int, ys.Perm ns → ys.Pairwise (· ≤ ·) → P (ys.map .int)
theorem rd1 {K : PySem.W.Frag} {m : Md} {H : Hp} {xs : List V} {d : D} (h : RDs K m H xs [d]) : ∃ v, xs = [v] ∧ RD K m H v d := rds1 h
end
end VP

/-! VQ10: xs[i], ys[j] = e -/
namespace VP
open PySem PySem.Spec PyProof.Rows L2 VB VZ VC RT
theorem rep_flatD (x : PyData) : ∀ k : Nat, (List.replicate k [x]).flatten = List.replicate k x
  | 0 => rfl
  | k + 1 => by rw [List.replicate_succ, List.flatten_cons, rep_flatD x k, List.replicate_succ]; rfl
section
variable {X : Cx} {B : Hp} {m0 : Md} {b : Bs} {e c1 c2 : Expr} {te t1 t2 : TE} {pe p1 p2 : PTE} {pos px py a1 a2 pt : Pos} {x y : Str}
def six2K (j : Nat) (p2 : PTE) (Pn : PEn) (z2 : PyData) (env1 : PEnv) : Prop := ∃ ds, env1[j]? = some (.own ds) ∧ p2 env1 fun d => ∃ (n : Int) (k : Nat), d = .py (.int n) ∧ ixN ds.length n = some k ∧ Pn.nx (env1.set j (.own (ds.set k z2)))
def six1K (i j : Nat) (p1 p2 : PTE) (Pn : PEn) (env : PEnv) : D → Prop := fun d => ∃ z1 z2, d = .py (.tuple [z1, z2]) ∧ ∃ ds, env[i]? = some (.own ds) ∧ p1 env fun d => ∃ (n : Int) (k : Nat), d = .py (.int n) ∧ ixN ds.length n = some k ∧ six2K j p2 Pn z2 (env.set i (.own (ds.set k z1)))
def pSetIx2 (i j : Nat) (pe p1 p2 : PTE) : PTS := fun Pn env => pe env (six1K i j p1 p2 Pn env)
theorem ss_setIx2 {i j : Nat} (h : SE b te pe) (h1 : SE b t1 p1) (h2 : SE b t2 p2) : SS b (tAsg te (gTup b.K 2 (gCons (gSub (tVar i) t1 rSetL) (gCons (gSub (tVar j) t2 rSetL) gNil)))) (pSetIx2 i j pe p1 p2) := fun V W σ env H Dn Pn hR hV hE hp => by
  refine h W σ env H _ _ hR hp fun v d H1 g1 r1 q1 => ?_
  obtain ⟨z1, z2, rfl, ds, e, q⟩ := q1
  obtain ⟨pa, xs, rfl, e1, aa⟩ := dq_tup r1.dp
  cases aa with
  | cons d1 at1 =>
  cases at1 with
  | cons d2 at2 =>
  cases at2
  rename_i v1 v2
  have hR1 := hR.go g1
  obtain ⟨a, vs, ha, hs, hx, hv, da⟩ := hR1.ownAt e
  refine ⟨pa, _, rfl, seqT_same vw_sub e1, rfl, v1, [v2], rfl, .ref a, hs, ?_⟩
  refine h1 W σ env H1 _ _ hR1 q fun v3 d3 H2 g2 r2 q2 => ?_
  obtain ⟨n, k, rfl, hn, q2⟩ := q2
  cases r2.dp
  have oa := (hR1.own i a ha).2.1
  have r := hR1.go g2
  obtain ⟨r3, ev⟩ := r.mut (vs := vs.set k v1) ha hs hx (dqa_set k (da.mv g2.vw) (d1.mv g2.vw))
  refine ⟨a, vs, n, k, rfl, rfl, g2.at oa hv, by rw [dqa_len da]; exact hn, v2, [], rfl, ?_⟩
  obtain ⟨ds', e', q'⟩ := q2
  obtain ⟨a', vs', ha', hs', hx', hv', da'⟩ := r3.ownAt e'
  refine ⟨.ref a', hs', ?_⟩
  refine h2 W σ _ _ _ _ r3 q' fun v4 d4 H3 g3 r4 q3 => ?_
  obtain ⟨n2, k2, rfl, hn2, q3⟩ := q3
  cases r4.dp
  have oa' := (r3.own j a' ha').2.1
  have r5 := r3.go g3
  have d2' : Dq b.K (VC.vw W.m H3) v2 z2 := ((by rw [ev]; exact d2.mv g2.vw : Dq b.K (VC.vw W.m (upd H2 a (.lst (vs.set k v1)))) v2 z2)).mv g3.vw
  obtain ⟨r6, ev6⟩ := r5.mut (vs := vs'.set k2 v2) ha' hs' hx' (dqa_set k2 (da'.mv g3.vw) d2')
  refine ⟨a', vs', n2, k2, rfl, rfl, g3.at oa' hv', by rw [dqa_len da']; exact hn2, rfl, hE.nx W _ _ _ r6 ?_ q3⟩
  have w1 : Same (VC.vw W.m H) (VC.vw W.m H2) := (g1.trans g2).vw
  have w2 : Same (VC.vw W.m (upd H2 a (.lst (vs.set k v1)))) (VC.vw W.m H3) := g3.vw
  rw [ev] at w2
  rw [ev6]
  exact hV.trans (w1.trans w2)
theorem qs_setIx2 (i j : Nat) (hc : X.calm = true) {kt : Nat} (he : QE X B m0 e te pe) (h1 : QE X B m0 c1 t1 p1) (h2 : QE X B m0 c2 t2 p2) (hN : X.N[i]? = some x := by rfl) (hN2 : X.N[j]? = some y := by rfl)
    (hv : Vis X.env.scope x := by first | exact .inl rfl | exact .inr (.inl rfl) | exact .inr (.inr rfl) | assumption) (hv2 : Vis X.env.scope y := by first | exact .inl rfl | exact .inr (.inl rfl) | exact .inr (.inr rfl) | assumption)
    (hd : (x == ("__debug__" : Str)) = false := by decide) (hcd : (x == ("__classdict__" : Str)) = false := by decide) (hd2 : (y == ("__debug__" : Str)) = false := by decide) (hcd2 : (y == ("__classdict__" : Str)) = false := by decide)
    (ha : ∀ v, assign (.Subscript (.Name x px) c1 a1) X.env v = (do
      let lv ← holding [v] (eval (.Name x px) X.env)
      let kv ← holding [v, lv] (eval c1 X.env)
      standAt a1
      holding [v, lv, kv] (setItem lv kv v)
      release [v, lv, kv] []) := by intro _; rfl)
    (ha2 : ∀ v, assign (.Subscript (.Name y py) c2 a2) X.env v = (do
      let lv ← holding [v] (eval (.Name y py) X.env)
      let kv ← holding [v, lv] (eval c2 X.env)
      standAt a2
      holding [v, lv, kv] (setItem lv kv v)
      release [v, lv, kv] []) := by intro _; rfl)
    (hn : (assignEach [.Subscript (.Name x px) c1 a1, .Subscript (.Name y py) c2 a2] X.env).length = 2 := by rfl) (hst : (assignEach [.Subscript (.Name x px) c1 a1, .Subscript (.Name y py) c2 a2] X.env).findIdx? (·.1) = none := by rfl)
    (hs1 : (assignEach [.Subscript (.Name x px) c1 a1, .Subscript (.Name y py) c2 a2] X.env).map (·.2) = assign (.Subscript (.Name x px) c1 a1) X.env :: (assignEach [.Subscript (.Name y py) c2 a2] X.env).map (·.2) := by rfl)
    (hs2 : (assignEach [.Subscript (.Name y py) c2 a2] X.env).map (·.2) = assign (.Subscript (.Name y py) c2 a2) X.env :: (assignEach [] X.env).map (·.2) := by rfl)
    (hs : swapsWithSole [.Tuple [.Subscript (.Name x px) c1 a1, .Subscript (.Name y py) c2 a2] kt pt] e pos.line X.env = pure false := by rfl) (hw : swappedStores [.Tuple [.Subscript (.Name x px) c1 a1, .Subscript (.Name y py) c2 a2] kt pt] e X.env = pure none := by rfl)
    (ht : (assignEach [.Tuple [.Subscript (.Name x px) c1 a1, .Subscript (.Name y py) c2 a2] kt pt] X.env).map (·.2) = [assign (.Tuple [.Subscript (.Name x px) c1 a1, .Subscript (.Name y py) c2 a2] kt pt) X.env] := by rfl) :
    QS X B m0 (.Assign [.Tuple [.Subscript (.Name x px) c1 a1, .Subscript (.Name y py) c2 a2] kt pt] e pos) (tAsg te (gTup X.K 2 (gCons (gSub (tVar i) t1 rSetL) (gCons (gSub (tVar j) t2 rSetL) gNil)))) (pSetIx2 i j pe p1 p2) :=
  ⟨ps_asg he.p (pg_tup hc (pgs_cons (pg_sub (pe_var hN hv hd hcd) h1.p set_list ha) (pgs_cons (pg_sub (pe_var hN2 hv2 hd2 hcd2) h2.p set_list ha2) pgs_nil hs2) hs1) hn hst) hs hw ht, ss_setIx2 (b := bs X B m0) he.s h1.s h2.s⟩
variable {env : PEnv} {Pn : PEn} {z1 z2 : PyData}
theorem w_setIx2 {i j : Nat} (h : pe env (six1K i j p1 p2 Pn env)) : pSetIx2 i j pe p1 p2 Pn env := h
theorem w_six1 {i j : Nat} {x : D} {ds : List PyData} (hx : x = .py (.tuple [z1, z2])) (e : env[i]? = some (.own ds)) (h : p1 env fun d => ∃ (n : Int) (k : Nat), d = .py (.int n) ∧ ixN ds.length n = some k ∧ six2K j p2 Pn z2 (env.set i (.own (ds.set k z1)))) : six1K i j p1 p2 Pn env x := ⟨z1, z2, hx, ds, e, h⟩
theorem w_six2 {j : Nat} {ds : List PyData} (e : env[j]? = some (.own ds)) (h : p2 env fun d => ∃ (n : Int) (k : Nat), d = .py (.int n) ∧ ixN ds.length n = some k ∧ Pn.nx (env.set j (.own (ds.set k z2)))) : six2K j p2 Pn z2 env := ⟨ds, e, h⟩
end
end VP

/-! VQ11: a law's own weights; tables of shares along a view -/
namespace VP
open PySem PySem.Spec PyProof.Rows L2 VB VZ VC RT
/-- lines whose sums have few figures -/
def Smb (kb : Nat) (ls : List (List Int)) : Prop := ∀ l ∈ ls, 0 < l.sum ∧ Bd kb l.sum
theorem smb_of {ls : List (List Int)} (h : Small ls) : Smb 10 ls := fun l hl => ⟨(h l hl).1, bd_pos (by have := (h l hl).1; omega) (by have := (h l hl).2; omega)⟩
theorem bd_le {k : Nat} {a b : Int} (h : Bd k b) (h0 : 0 ≤ a) (h1 : a ≤ b) : Bd k a := h.of_le (by omega)
theorem lcmF_pp {kb : Nat} : ∀ (ls : List (List Int)) (g : Int) (b : Nat), Smb kb ls → 0 < g → Bd b g → 0 < lcmF g ls ∧ Bd (b + kb * ls.length) (lcmF g ls) ∧ g ∣ lcmF g ls ∧ ∀ l ∈ ls, l.sum ∣ lcmF g ls
  | [], g, b, _, hg, hb => ⟨hg, hb.mono (Nat.le_add_right _ _), Int.dvd_refl _, fun l h => nomatch h⟩
  | l :: r, g, b, h, hg, hb => by
    obtain ⟨s0, s1⟩ := h l (by simp)
    have p := lcmI_pos hg s0
    have q : Bd (b + kb) (lcmI g l.sum) := bd_le (hb.mul s1) (by omega) (lcmI_le hg s0)
    obtain ⟨a1, a2, a3, a4⟩ := lcmF_pp r (lcmI g l.sum) (b + kb) (fun x hx => h x (by simp [hx])) p q
    refine ⟨a1, ?_, Int.dvd_trans (lcmI_dl g l.sum) a3, fun x hx => ?_⟩
    · have e : b + kb + kb * r.length = b + kb * (l :: r).length := by rw [List.length_cons, Nat.mul_succ]; omega
      rw [← e]
      exact a2
    · rcases List.mem_cons.mp hx with rfl | hx
      · exact Int.dvd_trans (lcmI_dr g x.sum) a3
      · exact a4 x hx
theorem one_bd1 : Bd 1 (1 : Int) := by show (1 : Int).natAbs < 2 ^ 1; decide
theorem getD_map {α β : Type} (f : α → β) {l : List α} {i : Nat} {d : α} {e : β} (h : i < l.length) : (l.map f).getD i e = f (l.getD i d) := by
  rw [List.getD_eq_getElem?_getD, List.getD_eq_getElem?_getD, List.getElem?_map, List.getElem?_eq_getElem h]
  rfl
theorem getD_mem {α : Type} {l : List α} {i : Nat} {d : α} (h : i < l.length) : l.getD i d ∈ l := by
  rw [List.getD_eq_getElem?_getD, List.getElem?_eq_getElem h]
  exact List.getElem_mem h
/-- what a law weighs: one sum for all steps, one for all tells -/
structure Lw (B n k : Nat) (c : Ch) : Prop where
  ok : ChOk 2000 n k c
  sp : Mtx B n n (evM c.sp)
  tl : Mtx B n k (evM c.tl)
  st : Lin B n c.st
  p1 : 0 < lcmF 1 c.sp
  p2 : 0 < lcmF 1 c.tl
  b0 : Bd B c.st.sum
  b1 : Bd B (lcmF 1 c.sp)
  b2 : Bd B (lcmF 1 c.tl)
  d1 : ∀ l ∈ c.sp, l.sum ∣ lcmF 1 c.sp
  d2 : ∀ l ∈ c.tl, l.sum ∣ lcmF 1 c.tl
theorem Lw.p0 {B n k : Nat} {c : Ch} (h : Lw B n k c) : 0 < c.st.sum := h.ok.st.sum
theorem mem_le_sum {ns : List Int} (h : ∀ y ∈ ns, 0 ≤ y) : ∀ y ∈ ns, y ≤ ns.sum := by
  induction ns with
  | nil => intro y hy; cases hy
  | cons a t ih =>
    intro y hy
    have s := sum_nn (ns := t) fun z hz => h z (by simp [hz])
    have ha := h a (by simp)
    rw [List.sum_cons]
    rcases List.mem_cons.mp hy with rfl | hy
    · omega
    · have := ih (fun z hz => h z (by simp [hz])) y hy
      omega
theorem evM_lw {b B r n : Nat} {ls : List (List Int)} (h : Mtx b r n ls) (p : 0 < lcmF 1 ls) (hB : Bd B (lcmF 1 ls)) (d : ∀ l ∈ ls, l.sum ∣ lcmF 1 ls) : Mtx B r n (evM ls) := by
  refine ⟨by unfold evM; rw [List.length_map]; exact h.len, fun l hl => ?_⟩
  obtain ⟨l0, h0, rfl⟩ := List.mem_map.mp hl
  have L0 := h.lin l0 h0
  have q0 := L0.sum
  have w0 := fdiv_le (x := lcmF 1 ls) (g := l0.sum) (by omega) q0 (d l0 h0)
  have es := evL_sum (d l0 h0)
  have nn : ∀ y ∈ evL (lcmF 1 ls) l0, 0 ≤ y := fun y hy => by
    obtain ⟨z, hz, rfl⟩ := List.mem_map.mp hy
    exact Int.mul_nonneg (L0.bd z hz).1 w0.1
  refine ⟨by rw [evL_len]; exact L0.len, fun x hx => ⟨nn x hx, ?_⟩, by rw [es]; exact p⟩
  have := mem_le_sum nn x hx
  rw [es] at this
  exact bd_le hB (nn x hx) this
theorem lw_mk {b B n k kb : Nat} {c : Ch} (hc : ChOk b n k c) (h1 : Smb kb c.sp) (h2 : Smb kb c.tl) (hB : Bd B (lcmF 1 c.sp)) (hB2 : Bd B (lcmF 1 c.tl)) (hB0 : Bd B c.st.sum) (b2 : b ≤ 2000) : Lw B n k c := by
  obtain ⟨a1, _, _, a4⟩ := lcmF_pp c.sp 1 1 h1 (by decide) one_bd1
  obtain ⟨c1, _, _, c4⟩ := lcmF_pp c.tl 1 1 h2 (by decide) one_bd1
  refine ⟨⟨hc.n1, hc.n6, hc.k1, hc.k5, hc.sg, hc.st.mono b2, ⟨hc.sp.len, fun l hl => (hc.sp.lin l hl).mono b2⟩, ⟨hc.tl.len, fun l hl => (hc.tl.lin l hl).mono b2⟩⟩, evM_lw hc.sp a1 hB a4, evM_lw hc.tl c1 hB2 c4, ⟨hc.st.len, fun x hx => ⟨(hc.st.bd x hx).1, ?_⟩, hc.st.sum⟩, a1, c1, hB0, hB, hB2, a4, c4⟩
  exact bd_le hB0 (hc.st.bd x hx).1 (mem_le_sum (fun y hy => (hc.st.bd y hy).1) x hx)
/-- weights to 7 -/
theorem lw_of3 {n k B : Nat} {c : Ch} (hc : ChOk 3 n k c) (e1 : (7 * n) ^ n < 2 ^ B) (e2 : (7 * k) ^ n < 2 ^ B) : Lw B n k c := by
  have s1 := small_of hc.sp hc.n6
  have s2 := small_of hc.tl (by have := hc.k5; omega)
  have p1 := (lcmF_props c.sp 1 s1 (by decide)).1
  have p2 := (lcmF_props c.tl 1 s2 (by decide)).1
  have n1 := hc.n1
  have g1 : lcmF 1 c.sp < 2 ^ B := lcm3 hc.sp hc.n1 e1
  have g2 : lcmF 1 c.tl < 2 ^ B := lcm3 hc.tl hc.k1 e2
  have h0 : c.st.sum ≤ c.st.length * 7 := sum_max fun x hx => by have := (hc.st.bd x hx).2; have z : x.natAbs < 2 ^ 3 := this; omega
  rw [hc.st.len] at h0
  have g0 : c.st.sum < 2 ^ B := by
    have q : 7 * n ≤ (7 * n) ^ n := by
      obtain ⟨m, rfl⟩ : ∃ m, n = m + 1 := ⟨n - 1, by omega⟩
      rw [Nat.pow_succ]
      exact Nat.le_mul_of_pos_left _ (Nat.pow_pos (by omega))
    have e3 : ((2 ^ B : Nat) : Int) = (2 : Int) ^ B := by rw [Int.natCast_pow]; rfl
    omega
  have p0 := hc.st.sum
  exact lw_mk hc (smb_of s1) (smb_of s2) (bd_pos (by omega) g1) (bd_pos (by omega) g2) (bd_pos (by omega) g0) (by decide)
/-- a weight by a law -/
def ltW (c : Ch) (u : Nat) : Option Nat → Int
  | none => lcmF 1 c.tl
  | some j => ((evM c.tl).getD u []).getD j 0
theorem fdiv_cast {a d : Int} (h : d ∣ a) (h0 : d ≠ 0) : ((a.fdiv d : Int) : Rat) = (a : Rat) / (d : Rat) := by
  obtain ⟨x, rfl⟩ := h
  rw [Int.mul_fdiv_cancel_left _ h0, Rat.intCast_mul]
  have := cz h0
  grind
theorem evM_q {ls : List (List Int)} {i u n b r : Nat} (h : Mtx b r n ls) (hd : ∀ l ∈ ls, l.sum ∣ lcmF 1 ls) (hi : i < r) (hu : u < n) : ((((evM ls).getD i []).getD u 0 : Int) : Rat) = (((ls.getD i []).getD u 0 : Int) : Rat) / ((ls.getD i []).sum : Rat) * (lcmF 1 ls : Rat) := by
  have hil : i < ls.length := by rw [h.len]; exact hi
  have hm := getD_mem (d := ([] : List Int)) hil
  have e1 : (evM ls).getD i [] = evL (lcmF 1 ls) (ls.getD i []) := getD_map _ hil
  rw [e1]
  have L := h.lin _ hm
  generalize ls.getD i [] = l at *
  have e2 : (evL (lcmF 1 ls) l).getD u 0 = l.getD u 0 * (lcmF 1 ls).fdiv l.sum := getD_map (fun x => x * (lcmF 1 ls).fdiv l.sum) (by rw [L.len]; exact hu)
  have z : l.sum ≠ 0 := by have := L.sum; omega
  rw [e2, Rat.intCast_mul, fdiv_cast (hd l hm) z]
  have := cz z
  grind
section
variable {B n k : Nat} {c : Ch}
theorem Lw.s (h : Lw B n k c) (u : Nat) : ((c.st.getD u 0 : Int) : Rat) = qS c u * c.st.sum := by
  have z := cpos h.p0
  show _ = ((c.st.getD u 0 : Int) : Rat) / (c.st.sum : Rat) * c.st.sum
  grind
theorem Lw.p (h : Lw B n k c) {s u : Nat} (hs : s < n) (hu : u < n) : ((((evM c.sp).getD s []).getD u 0 : Int) : Rat) = qP c s u * (lcmF 1 c.sp : Rat) := evM_q h.ok.sp h.d1 hs hu
theorem Lw.t (h : Lw B n k c) {u : Nat} (hu : u < n) {o : Option Nat} (ho : ∀ j, o = some j → j < k) : ((ltW c u o : Int) : Rat) = qT c u o * (lcmF 1 c.tl : Rat) := by
  cases o with
  | none => show ((lcmF 1 c.tl : Int) : Rat) = 1 * _; rw [Rat.one_mul]
  | some j => exact evM_q h.ok.tl h.d2 hu (ho j rfl)
theorem lw_get {b r m i u : Nat} {ls : List (List Int)} (h : Mtx b r m ls) (hi : i < r) (hu : u < m) : 0 ≤ (ls.getD i []).getD u 0 ∧ Bd b ((ls.getD i []).getD u 0) := by
  have L := h.lin _ (getD_mem (d := ([] : List Int)) (by rw [h.len]; exact hi))
  exact L.bd _ (getD_mem (by rw [L.len]; exact hu))
theorem Lw.sn (h : Lw B n k c) {u : Nat} (hu : u < n) : 0 ≤ c.st.getD u 0 ∧ Bd B (c.st.getD u 0) := h.st.bd _ (getD_mem (by rw [h.st.len]; exact hu))
theorem Lw.pn (h : Lw B n k c) {s u : Nat} (hs : s < n) (hu : u < n) : 0 ≤ ((evM c.sp).getD s []).getD u 0 ∧ Bd B (((evM c.sp).getD s []).getD u 0) := lw_get h.sp hs hu
theorem Lw.tn (h : Lw B n k c) {u : Nat} (hu : u < n) {o : Option Nat} (ho : ∀ j, o = some j → j < k) : 0 ≤ ltW c u o ∧ Bd B (ltW c u o) := by
  cases o with
  | none => exact ⟨by have := h.p2; show 0 ≤ lcmF 1 c.tl; omega, h.b2⟩
  | some j => exact lw_get h.tl hu (ho j rfl)
end
/-- what weights of so many places are parts of -/
def lbI (A0 A1 A2 : Int) : Nat → Int
  | 0 => 1
  | m + 1 => A0 * A2 * (A1 * A2) ^ m
theorem lbI_pos {A0 A1 A2 : Int} (h0 : 0 < A0) (h1 : 0 < A1) (h2 : 0 < A2) : ∀ m, 0 < lbI A0 A1 A2 m
  | 0 => by show (0 : Int) < 1; decide
  | m + 1 => Int.mul_pos (Int.mul_pos h0 h2) (Int.pow_pos (Int.mul_pos h1 h2))
theorem lbI_succ (A0 A1 A2 : Int) : ∀ m, 1 ≤ m → lbI A0 A1 A2 (m + 1) = lbI A0 A1 A2 m * (A1 * A2)
  | 0, h => by omega
  | m + 1, _ => by
    show A0 * A2 * (A1 * A2) ^ (m + 1) = A0 * A2 * (A1 * A2) ^ m * (A1 * A2)
    rw [Int.pow_succ, ← Int.mul_assoc]
theorem pow_bd {b : Nat} {a : Int} (h : Bd b a) : ∀ m : Nat, Bd (b * m + 1) (a ^ m)
  | 0 => by rw [Int.pow_zero]; exact one_bd (by omega)
  | m + 1 => by
    rw [Int.pow_succ]
    exact ((pow_bd h m).mul h).mono (by rw [Nat.mul_succ]; omega)
theorem lbI_bd {A0 A1 A2 : Int} {B : Nat} (h0 : Bd B A0) (h1 : Bd B A1) (h2 : Bd B A2) : ∀ m, Bd (2 * B * m + 1) (lbI A0 A1 A2 m)
  | 0 => one_bd (by omega)
  | m + 1 => by
    show Bd _ (A0 * A2 * (A1 * A2) ^ m)
    refine ((h0.mul h2).mul (pow_bd (h1.mul h2) m)).mono ?_
    have e : 2 * B * (m + 1) = 2 * B * m + 2 * B := Nat.mul_succ _ _
    have e2 : (B + B) * m = 2 * B * m := by rw [← Nat.two_mul]
    omega
/-- tables of shares -/
def aQ (c : Ch) (n : Nat) (os : List (Option Nat)) (i u : Nat) : Rat := paQ c n (os.take (i + 1)).reverse u
def bQ (c : Ch) (n : Nat) (os : List (Option Nat)) (i u : Nat) : Rat := wyQ c n (os.drop (i + 1)) u
def tqD (n L : Nat) (q : Nat → Nat → Rat) : PyData := .tuple ((List.range L).map fun i => .tuple ((List.range n).map fun u => rD (q i u)))
/-- a table of weights over these sums is a table of these shares -/
structure TabOk (n L bb : Nat) (tb : List (List Int)) (q : Nat → Nat → Rat) (den : Nat → Int) : Prop where
  len : tb.length = L
  row : ∀ i, i < L → (tb.getD i []).length = n
  nn : ∀ i u, i < L → u < n → 0 ≤ (tb.getD i []).getD u 0 ∧ Bd bb ((tb.getD i []).getD u 0)
  eq : ∀ i u, i < L → u < n → (((tb.getD i []).getD u 0 : Int) : Rat) = q i u * den i
theorem tqD_congr {n L : Nat} {q r : Nat → Nat → Rat} (h : ∀ i u, i < L → u < n → q i u = r i u) : tqD n L q = tqD n L r := by
  unfold tqD
  refine congrArg _ (List.map_congr_left fun i hi => congrArg _ (List.map_congr_left fun u hu => ?_))
  rw [h i u (List.mem_range.mp hi) (List.mem_range.mp hu)]
theorem tqD_fit {n L kb : Nat} {q : Nat → Nat → Rat} (hn : n ≤ 6) (hL : L ≤ 41) (hk : kb ≤ 1920) (h : ∀ i u, i < L → u < n → Rb kb (q i u)) : Fz 1000000 3 (tqD n L q) := by
  have row : ∀ i, i < L → Fz 24000 2 (.tuple ((List.range n).map fun u => rD (q i u))) := fun i hi => by
    have e : (List.range n).map (fun u => rD (q i u)) = ((List.range n).map (q i)).map rD := by rw [List.map_map]; rfl
    rw [e]
    have f := fz_tup (fz_rs (k := kb) (qs := (List.range n).map (q i)) (fun x hx => by
      obtain ⟨u, hu, rfl⟩ := List.mem_map.mp hx
      exact h i u hi (List.mem_range.mp hu)) hk)
    refine f.mono ?_ (Nat.le_refl _)
    rw [List.length_map, List.length_range]
    omega
  have all := fza_all (ds := (List.range L).map fun i => PyData.tuple ((List.range n).map fun u => rD (q i u))) (w := 24000) (dd := 2) fun d hd => by
    obtain ⟨i, hi, rfl⟩ := List.mem_map.mp hd
    exact row i (List.mem_range.mp hi)
  have f := fz_tup all
  refine f.mono ?_ (Nat.le_refl _)
  rw [List.length_map, List.length_range]
  have := Nat.mul_le_mul_right (24000 + 2) hL
  omega
end VP

/-! VQ12: a law's own tables along a view, by its weights -/
namespace VP
open PySem PySem.Spec PyProof.Rows L2 VB VZ VC RT
def lS (c : Ch) (u : Nat) : Int := c.st.getD u 0
def lP (c : Ch) (s u : Nat) : Int := ((evM c.sp).getD s []).getD u 0
def paL (c : Ch) (n : Nat) (v : List (Option Nat)) (u : Nat) : Int := partsR (lS c) (lP c) (ltW c) n v u
def wyW (c : Ch) (n : Nat) (v : List (Option Nat)) (s : Nat) : Int := waysR (lP c) (ltW c) n v s
def lbC (c : Ch) (m : Nat) : Int := lbI c.st.sum (lcmF 1 c.sp) (lcmF 1 c.tl) m
def lbW (c : Ch) (m : Nat) : Int := (lcmF 1 c.sp * lcmF 1 c.tl) ^ m
def Okv (k : Nat) (os : List (Option Nat)) : Prop := ∀ o ∈ os, ∀ j, o = some j → j < k
theorem okv_ovs {k L : Nat} {sg z : Str} (hs : Sgs k sg) (h : VwOk sg z L) : Okv k (ovs sg z) := by
  intro o ho j e
  obtain ⟨a, ha, rfl⟩ := List.mem_map.mp ho
  unfold optS at e
  split at e
  · cases e
  · rename_i ne
    cases e
    exact sg_lt hs ((h.let_ a ha).resolve_left ne)
theorem Okv.take {k : Nat} {os : List (Option Nat)} (h : Okv k os) (i : Nat) : Okv k (os.take i) := fun o ho => h o (List.mem_of_mem_take ho)
theorem Okv.drop {k : Nat} {os : List (Option Nat)} (h : Okv k os) (i : Nat) : Okv k (os.drop i) := fun o ho => h o (List.mem_of_mem_drop ho)
theorem Okv.rev {k : Nat} {os : List (Option Nat)} (h : Okv k os) : Okv k os.reverse := fun o ho => h o (List.mem_reverse.mp ho)
section
variable {B n k : Nat} {c : Ch}
theorem paL_q (h : Lw B n k c) : ∀ (r : List (Option Nat)) (o : Option Nat) (u : Nat), u < n → Okv k (o :: r) → (paL c n (o :: r) u : Rat) = paQ c n (o :: r) u * (lbC c (r.length + 1) : Rat)
  | [], o, u, hu, ho => by
    show ((lS c u * ltW c u o : Int) : Rat) = qS c u * qT c u o * ((c.st.sum * lcmF 1 c.tl * (lcmF 1 c.sp * lcmF 1 c.tl) ^ 0 : Int) : Rat)
    rw [Int.pow_zero, Int.mul_one, Rat.intCast_mul, Rat.intCast_mul, show (lS c u : Rat) = _ from h.s u, h.t hu (ho o (by simp))]
    grind
  | o2 :: r, o, u, hu, ho => by
    show ((sumN n (fun s => paL c n (o2 :: r) s * lP c s u) * ltW c u o : Int) : Rat) = sumQ n (fun s => paQ c n (o2 :: r) s * qP c s u) * qT c u o * (lbC c (r.length + 1 + 1) : Rat)
    have e0 : lbC c (r.length + 1 + 1) = lbC c (r.length + 1) * (lcmF 1 c.sp * lcmF 1 c.tl) := lbI_succ _ _ _ _ (by omega)
    rw [e0, Rat.intCast_mul, Rat.intCast_mul, Rat.intCast_mul, h.t hu (ho o (by simp)), cast_sumN]
    have e : sumQ n (fun s => ((paL c n (o2 :: r) s * lP c s u : Int) : Rat)) = sumQ n (fun s => paQ c n (o2 :: r) s * qP c s u * ((lbC c (r.length + 1) : Rat) * (lcmF 1 c.sp : Rat))) := sumQ_congr fun s hs => by
      rw [Rat.intCast_mul, paL_q h r o2 s hs (fun x hx => ho x (by simp [List.mem_cons.mp hx])), show (lP c s u : Rat) = _ from h.p hs hu]
      grind
    rw [e, sumQ_mulR]
    grind
theorem sumN_nn {f : Nat → Int} (h : ∀ u, u < n → 0 ≤ f u) : 0 ≤ sumN n f := by
  refine sum_nn fun x hx => ?_
  obtain ⟨u, hu, rfl⟩ := List.mem_map.mp hx
  exact h u (List.mem_range.mp hu)
theorem sumN_bd {f : Nat → Int} {b : Nat} (hn : n ≤ 8) (h : ∀ u, u < n → Bd b (f u)) : Bd (b + 3) (sumN n f) := by
  refine Bd.sum8 (by simpa using hn) fun x hx => ?_
  obtain ⟨u, hu, rfl⟩ := List.mem_map.mp hx
  exact h u (List.mem_range.mp hu)
theorem paL_nb (h : Lw B n k c) : ∀ (r : List (Option Nat)) (o : Option Nat) (u : Nat), u < n → Okv k (o :: r) → 0 ≤ paL c n (o :: r) u ∧ Bd ((2 * B + 3) * (r.length + 1)) (paL c n (o :: r) u)
  | [], o, u, hu, ho => by
    have s := h.sn hu
    have t := h.tn hu (ho o (by simp))
    exact ⟨Int.mul_nonneg s.1 t.1, (s.2.mul t.2).mono (by simp; omega)⟩
  | o2 :: r, o, u, hu, ho => by
    have t := h.tn hu (ho o (by simp))
    have ih := fun s (hs : s < n) => paL_nb h r o2 s hs (fun x hx => ho x (by simp [List.mem_cons.mp hx]))
    have p := fun s (hs : s < n) => h.pn hs hu
    have n6 := h.ok.n6
    refine ⟨Int.mul_nonneg (sumN_nn fun s hs => Int.mul_nonneg (ih s hs).1 (p s hs).1) t.1, ?_⟩
    refine ((sumN_bd (by omega) fun s hs => (ih s hs).2.mul (p s hs).2).mul t.2).mono ?_
    have e : (2 * B + 3) * ((o2 :: r).length + 1) = (2 * B + 3) * (r.length + 1) + (2 * B + 3) := by rw [List.length_cons]; exact Nat.mul_succ _ _
    omega
theorem wyW_q (h : Lw B n k c) : ∀ (v : List (Option Nat)) (s : Nat), s < n → Okv k v → (wyW c n v s : Rat) = wyQ c n v s * (lbW c v.length : Rat)
  | [], s, _, _ => by
    show ((1 : Int) : Rat) = 1 * (((lcmF 1 c.sp * lcmF 1 c.tl) ^ 0 : Int) : Rat)
    rw [Int.pow_zero, Rat.one_mul]
  | o :: v, s, hs, ho => by
    show ((sumN n (fun u => lP c s u * (ltW c u o * wyW c n v u)) : Int) : Rat) = sumQ n (fun u => qP c s u * (qT c u o * wyQ c n v u)) * (((lcmF 1 c.sp * lcmF 1 c.tl) ^ (v.length + 1) : Int) : Rat)
    rw [cast_sumN, ← sumQ_mulR]
    refine sumQ_congr fun u hu => ?_
    rw [Rat.intCast_mul, Rat.intCast_mul, show (lP c s u : Rat) = _ from h.p hs hu, h.t hu (ho o (by simp)), wyW_q h v u hu (fun x hx => ho x (by simp [hx])), Int.pow_succ, Rat.intCast_mul, Rat.intCast_mul]
    unfold lbW
    grind
theorem wyW_nb (h : Lw B n k c) : ∀ (v : List (Option Nat)) (s : Nat), s < n → Okv k v → 0 ≤ wyW c n v s ∧ Bd ((2 * B + 3) * v.length + 1) (wyW c n v s)
  | [], s, _, _ => ⟨by show (0 : Int) ≤ 1; decide, one_bd (by simp)⟩
  | o :: v, s, hs, ho => by
    have ih := fun u (hu : u < n) => wyW_nb h v u hu (fun x hx => ho x (by simp [hx]))
    have p := fun u (hu : u < n) => h.pn hs hu
    have t := fun u (hu : u < n) => h.tn hu (ho o (by simp))
    have n6 := h.ok.n6
    refine ⟨sumN_nn fun u hu => Int.mul_nonneg (p u hu).1 (Int.mul_nonneg (t u hu).1 (ih u hu).1), ?_⟩
    refine (sumN_bd (by omega) fun u hu => (p u hu).2.mul ((t u hu).2.mul (ih u hu).2)).mono ?_
    have e : (2 * B + 3) * (o :: v).length = (2 * B + 3) * v.length + (2 * B + 3) := by rw [List.length_cons]; exact Nat.mul_succ _ _
    omega
theorem lbC_pos (h : Lw B n k c) (m : Nat) : 0 < lbC c m := lbI_pos h.p0 h.p1 h.p2 m
theorem lbC_bd (h : Lw B n k c) (m : Nat) : Bd (2 * B * m + 1) (lbC c m) := lbI_bd h.b0 h.b1 h.b2 m
theorem lbW_pos (h : Lw B n k c) (m : Nat) : 0 < lbW c m := Int.pow_pos (Int.mul_pos h.p1 h.p2)
theorem lbW_bd (h : Lw B n k c) (m : Nat) : Bd (2 * B * m + 1) (lbW c m) := (pow_bd (h.b1.mul h.b2) m).mono (by rw [Nat.two_mul]; omega)
end
/-- the tables -/
def lAh (c : Ch) (n : Nat) (os : List (Option Nat)) : List (List Int) := (List.range os.length).map fun i => (List.range n).map (paL c n (os.take (i + 1)).reverse)
def lBh (c : Ch) (n : Nat) (os : List (Option Nat)) : List (List Int) := (List.range os.length).map fun i => (List.range n).map (wyW c n (os.drop (i + 1)))
theorem rev_take {α : Type} {os : List α} {i : Nat} {o : α} (h : os[i]? = some o) : (os.take (i + 1)).reverse = o :: (os.take i).reverse := by
  rw [List.take_add_one, h]
  simp
theorem rev_take' {α : Type} {os : List α} {i : Nat} (h : i < os.length) : (os.take (i + 1)).reverse = os[i] :: (os.take i).reverse := rev_take (List.getElem?_eq_getElem h)
/-- all ways on from a state -/
theorem ways_on (sp : Nat → Nat → Int) (tl : Nat → Option Nat → Int) (n s : Nat) : ∀ v : List (Option Nat), ((courses n v.length).map fun us => wholeR (sp s) sp tl v.reverse us.reverse).sum = waysR sp tl n v s
  | [] => by
    show ([([] : List Nat)].map _).sum = 1
    simp [wholeR]
  | o :: v => by
    obtain ⟨o2, r, e⟩ : ∃ o2 r, (o :: v).reverse = o2 :: r := by
      cases q : (o :: v).reverse with
      | nil => exact absurd (List.reverse_eq_nil_iff.mp q) (by simp)
      | cons a b => exact ⟨a, b, rfl⟩
    have el : (o :: v).length = r.length + 1 := by rw [← List.length_reverse, e]; rfl
    have h1 := sum_courses (sp s) sp tl n r o2 fun _ => 1
    rw [← e, ← el] at h1
    have h2 := parts_snoc_ways (sp s) sp tl n v [] o
    rw [List.reverse_cons] at h1
    have e3 : ((courses n (o :: v).length).map fun c => wholeR (sp s) sp tl (v.reverse ++ [o]) c.reverse * 1).sum = ((courses n (o :: v).length).map fun us => wholeR (sp s) sp tl (o :: v).reverse us.reverse).sum := by
      rw [List.reverse_cons]
      exact congrArg List.sum (List.map_congr_left fun c _ => Int.mul_one _)
    have e4 : (sumN n fun u => partsR (sp s) sp tl n (v.reverse ++ [o]) u * 1) = sumN n (partsR (sp s) sp tl n (v.reverse ++ [o])) := congrArg List.sum (List.map_congr_left fun u _ => Int.mul_one _)
    rw [← e3]
    rw [e4, ← h2] at h1
    refine h1.trans ?_
    exact congrArg List.sum (List.map_congr_left fun u _ => Int.mul_assoc _ _ _)
/-- all courses to a state -/
theorem parts_to (st : Nat → Int) (sp : Nat → Nat → Int) (tl : Nat → Option Nat → Int) (n : Nat) (v : List (Option Nat)) (o : Option Nat) {u : Nat} (hu : u < n) : (((courses n (v.length + 1)).filter fun c => c.reverse.headD 0 == u).map fun c => wholeR st sp tl (o :: v) c.reverse).sum = partsR st sp tl n (o :: v) u := by
  have h := sum_courses st sp tl n v o fun s => if s = u then 1 else 0
  have e1 : (sumN n fun s => partsR st sp tl n (o :: v) s * (if s = u then 1 else 0)) = partsR st sp tl n (o :: v) u := by
    generalize partsR st sp tl n (o :: v) = f
    have key : ∀ m, (sumN m fun s => f s * (if s = u then 1 else 0)) = if u < m then f u else 0 := by
      intro m
      induction m with
      | zero => rfl
      | succ m ih =>
        unfold sumN at ih ⊢
        rw [List.range_succ, List.map_append, List.sum_append, ih]
        simp only [List.map_cons, List.map_nil, List.sum_cons, List.sum_nil]
        by_cases e : m = u
        · subst e
          rw [if_neg (by omega), if_pos (by omega), Int.mul_one]
          omega
        · rw [if_neg e, Int.mul_zero]
          by_cases e2 : u < m
          · rw [if_pos e2, if_pos (by omega)]
            omega
          · rw [if_neg e2, if_neg (by omega)]
            omega
    rw [key n, if_pos hu]
  rw [e1] at h
  rw [← h]
  generalize courses n (v.length + 1) = L
  induction L with
  | nil => rfl
  | cons c r ih =>
    rw [List.filter_cons, List.map_cons, List.sum_cons]
    by_cases e : c.reverse.headD 0 = u
    · have e' : (c.reverse.headD 0 == u) = true := by rw [e]; exact beq_self_eq_true u
      rw [if_pos e', if_pos e, List.map_cons, List.sum_cons, Int.mul_one, ih]
    · have e' : (c.reverse.headD 0 == u) = false := by simpa using e
      rw [if_neg (by rw [e']; decide), if_neg e, Int.mul_zero, ih]
      omega
end VP

/-! VQ13: texts turned about; fresh lists by a product -/
namespace VP
open PySem PySem.Spec PyProof.Rows L2 VB VZ VC RT
/-- z[::-1], z[:0:-1] -/
def revS (d : Nat) (z : Str) : Str := ⟨(z.cps.toList.drop d).reverse.toArray⟩
theorem range_down (n d : Nat) (h : d ≤ n) : sliceRange ((n : Int) - 1) ((d : Int) - 1) (-1) = (List.range (n - d)).map fun k => n - 1 - k := by
  unfold sliceRange
  rw [if_neg (by decide)]
  by_cases c : (n : Int) - 1 > (d : Int) - 1
  · rw [if_pos c]
    show List.map _ (List.range (((n : Int) - 1 - ((d : Int) - 1) - -1 - 1) / (- -1)).toNat) = _
    have e : (((n : Int) - 1 - ((d : Int) - 1) - -1 - 1) / (- -1)).toNat = n - d := by
      rw [Int.neg_neg, Int.ediv_one]
      omega
    rw [e]
    refine List.map_congr_left fun k hk => ?_
    have := List.mem_range.mp hk
    omega
  · rw [if_neg c]
    have : n - d = 0 := by omega
    rw [this]
    rfl
theorem ix_down0 (n : Nat) : Builtin.Str.strSliceIndices none none (-1) n = (List.range n).map fun k => n - 1 - k := by
  have := range_down n 0 (by omega)
  rw [Nat.sub_zero] at this
  rw [← this]
  rfl
theorem ix_down1 (n : Nat) : Builtin.Str.strSliceIndices none (some 0) (-1) n = (List.range (n - 1)).map fun k => n - 1 - k := by
  cases n with
  | zero => rfl
  | succ m =>
    have := range_down (m + 1) 1 (by omega)
    rw [← this]
    show sliceRange _ (max (-1) (min 0 (((m + 1 : Nat) : Int) - 1))) _ = _
    congr 1
    omega
theorem pick_down (z : Str) (d : Nat) : ⟨(((List.range (z.length - d)).map fun k => z.length - 1 - k).filterMap (z.cps[·]?)).toArray⟩ = revS d z := by
  unfold revS
  congr 2
  have hz : z.length = z.cps.toList.length := by show z.cps.size = _; simp
  have e0 : ∀ k, z.cps[k]? = z.cps.toList[k]? := fun k => Array.getElem?_toList.symm
  have e1 : (fun x => z.cps[x]?) = fun x => z.cps.toList[x]? := funext e0
  rw [e1, hz]
  generalize z.cps.toList = l
  rw [List.filterMap_map]
  refine List.ext_getElem? fun i => ?_
  have key : (List.range (l.length - d)).filterMap ((fun x => l[x]?) ∘ fun k => l.length - 1 - k) = (List.range (l.length - d)).map fun k => l.getD (l.length - 1 - k) 0 := by
    have : ∀ r : List Nat, (∀ k ∈ r, k < l.length - d) → r.filterMap ((fun x => l[x]?) ∘ fun k => l.length - 1 - k) = r.map fun k => l.getD (l.length - 1 - k) 0 := by
      intro r
      induction r with
      | nil => intro _; rfl
      | cons a t ih =>
        intro h
        have ha := h a (by simp)
        have g : l[l.length - 1 - a]? = some (l.getD (l.length - 1 - a) 0) := by
          rw [List.getElem?_eq_getElem (by omega), List.getD_eq_getElem?_getD, List.getElem?_eq_getElem (by omega)]
          rfl
        rw [List.filterMap_cons]
        have g' : ((fun x => l[x]?) ∘ fun k => l.length - 1 - k) a = some (l.getD (l.length - 1 - a) 0) := g
        rw [g']
        show _ :: _ = _ :: _
        rw [ih fun k hk => h k (by simp [hk])]
    exact this _ fun k hk => List.mem_range.mp hk
  rw [key]
  by_cases c : i < l.length - d
  · rw [List.getElem?_map, List.getElem?_range c, List.getElem?_reverse (by rw [List.length_drop]; exact c), List.getElem?_drop, List.length_drop]
    have e : d + (l.length - d - 1 - i) = l.length - 1 - i := by omega
    rw [e, List.getElem?_eq_getElem (by omega)]
    show some (l.getD _ 0) = _
    rw [List.getD_eq_getElem?_getD, List.getElem?_eq_getElem (by omega)]
    rfl
  · rw [List.getElem?_eq_none_iff.mpr (by simp; omega), List.getElem?_eq_none_iff.mpr (by simp; omega)]
theorem revS_len (d : Nat) (z : Str) : (revS d z).length ≤ z.length := by
  show ((z.cps.toList.drop d).reverse.toArray).size ≤ z.cps.size
  simp
end VP
namespace L2
open PySem PySem.Spec PyProof.Rows
def tRevS (d : Nat) (te : TE) : TE := fun σ H Q => te σ H fun x H1 => ∃ z : Str, x = .str z ∧ z.length ≤ sizeLine ∧ Q (.str (VP.revS d z)) H1
section
variable {X : Cx}
theorem pe_revS {e : Expr} {te : TE} {k : Nat} {p1 p2 p3 pos : Pos} {hi : Option Expr} {tu : TO} {h0 : Option Int} (d : Nat) (he : PE X e te) (hp : PO X hi tu) (hu : ∀ σ H, tu σ H fun o H2 => o = h0 ∧ H2 = H)
    (hd : ∀ n, Builtin.Str.strSliceIndices none h0 (-1) n = (List.range (n - d)).map fun k => n - 1 - k) (hsub0 : ∀ o i, subscripted (.Slice none hi (some (.UnaryOp .USub (.Constant (.int 1) k p1) p2)) p3) false o i = operate [o, i] (getItem o i) := by intro _ _; with_unfolding_all rfl) :
    PE X (.Subscript e (.Slice none hi (some (.UnaryOp .USub (.Constant (.int 1) k p1) p2)) p3) pos) (tRevS d te) := by
  refine ⟨fun pins s σ H Q I hh => ?_⟩
  refine Subscript_ (thn (he.run pins s σ H _ I hh) fun v t1 ⟨x, H1, I1, r1, w1⟩ => ?_)
  obtain ⟨z, rfl, hz, w⟩ := w1
  obtain ⟨tk, rfl⟩ := r1
  have one : PO X (some (.UnaryOp .USub (.Constant (.int 1) k p1) p2)) (tPart (tUn (rU fun i => .int (-i)) (tC (.int 1)))) := po_some (pe_un un_neg pe_int)
  refine wpAny_Slice (thn (po_none.run pins t1 σ H1 (fun o H2 => o = none ∧ H2 = H1) I1 ⟨rfl, rfl⟩) fun va t2 ⟨a, H2, I2, pa, ea, e2⟩ => ?_)
  subst ea e2
  refine thn (hp.run pins t2 σ H2 (fun o H3 => o = h0 ∧ H3 = H2) I2 (hu σ H2)) fun vb t3 ⟨b, H3, I3, pb, eb, e3⟩ => ?_
  subst eb e3
  refine thn (one.run pins t3 σ H3 (fun o H4 => o = some (-1) ∧ H4 = H3) I3 ⟨1, rfl, -1, rfl, rfl, rfl⟩) fun vc t4 ⟨c, H4, I4, pc, ec, e4⟩ => ?_
  subst ec e4
  have I5 : Inv X pins σ H4 { t4 with heap := t4.heap.push { cls := .type "slice", data := .fields #[va, vb, vc] } } := I4.kept (t' := t4.toks) fun b ob q => Heap.get?_push_of_some _ q
  obtain ⟨l, rfl, la⟩ := IsPart.raw pa
  obtain ⟨u, rfl, lu⟩ := IsPart.raw pb
  obtain ⟨y, rfl, ly⟩ := IsPart.raw pc
  have hs := Heap.get?_push_size t4.heap (o := { cls := .type "slice", data := .fields #[partValue l, partValue u, partValue y] }) rfl
  have hsub := hsub0 (.str z tk) (.ref t4.heap.objs.size)
  refine tail_any (ops := [.str z tk, .ref t4.heap.objs.size]) (typeIs_str _ z tk) F.slot_str_getitem.lookup ?_ hsub
  refine wpAny_getItem_str_slice (l := l) (u := u) (st := y) ⟨_, hs, rfl, rfl⟩ (by rw [ly]; rfl) ?_
  have e : slicePicked z l u y = (List.range (z.length - d)).map fun k => z.length - 1 - k := by
    unfold slicePicked
    rw [la, lu, ly]
    exact hd z.length
  unfold sliceMade
  rw [ly]
  show Made.post (if ((-1 : Int) == 1 && _) = true then _ else _) _ _
  rw [if_neg (by rw [show ((-1 : Int) == 1) = false from rfl, Bool.false_and]; decide), e, VP.pick_down]
  exact ⟨Nat.le_trans (VP.revS_len d z) hz, .str (VP.revS d z), H4, I5.tok _, ⟨_, rfl⟩, w⟩
end
end L2
namespace VP
open PySem PySem.Spec PyProof.Rows L2 VB VZ VC RT
section
variable {X : Cx} {B : Hp} {m0 : Md} {b : Bs} {a c e : Expr} {te ta tb : TE} {pe pa pb : PTE} {pos p0 p1 p2 p3 : Pos} {k k0 : Nat} {env : PEnv}
def rvK (d : Nat) (P : D → Prop) : D → Prop := fun x => ∃ z : Str, x = .py (.str z) ∧ z.length ≤ sizeLine ∧ P (.py (.str (revS d z)))
def pRevS (d : Nat) (pe : PTE) : PTE := fun env P => pe env (rvK d P)
theorem se_revS {d : Nat} (h : SE b te pe) : SE b (tRevS d te) (pRevS d pe) := by
  intro W σ env H Q P hR hp kk
  refine h W σ env H _ _ hR hp fun v x H1 g1 r1 q1 => ?_
  obtain ⟨z, rfl, hz, q⟩ := q1
  cases r1.dp
  exact ⟨z, rfl, hz, kk _ _ H1 g1 (rdp (.str _)) q⟩
theorem qe_revS0 (h : QE X B m0 e te pe) : QE X B m0 (.Subscript e (.Slice none none (some (.UnaryOp .USub (.Constant (.int 1) k p1) p2)) p3) pos) (tRevS 0 te) (pRevS 0 pe) :=
  ⟨pe_revS (h0 := none) 0 h.p po_none (fun _ _ => ⟨rfl, rfl⟩) (fun n => by rw [Nat.sub_zero]; exact ix_down0 n), se_revS (b := bs X B m0) h.s⟩
theorem qe_revS1 (h : QE X B m0 e te pe) : QE X B m0 (.Subscript e (.Slice none (some (.Constant (.int 0) k0 p0)) (some (.UnaryOp .USub (.Constant (.int 1) k p1) p2)) p3) pos) (tRevS 1 te) (pRevS 1 pe) :=
  ⟨pe_revS (h0 := some 0) 1 h.p (po_some pe_int) (fun _ _ => ⟨0, rfl, rfl, rfl⟩) ix_down1, se_revS (b := bs X B m0) h.s⟩
theorem w_revS {d : Nat} {P : D → Prop} (h : pe env (rvK d P)) : pRevS d pe env P := h
theorem w_rvk {d : Nat} {x : D} {z : Str} {P : D → Prop} (hx : x = .py (.str z)) (hz : z.length ≤ sizeLine) (h : P (.py (.str (revS d z)))) : rvK d P x := ⟨z, hx, hz, h⟩
/-- xs * n, a fresh list -/
def repK (P : List PyData → Prop) (x : D) : D → Prop := fun y => ∃ ds n, x = .py (.list ds) ∧ y = .py (.int n) ∧ ds.length ≤ 1000 ∧ ds.length * n.toNat ≤ 1000 ∧ -1000 ≤ n ∧ n ≤ 1000 ∧ P (List.replicate n.toNat ds).flatten
def pRepL (pa pb : PTE) : PTL := fun env P => pa env fun x => pb env (repK P x)
theorem sf_repL (ha : SE b ta pa) (hb : SE b tb pb) : SF b (tOp rRep ta tb) (pRepL pa pb) := by
  intro W σ env H Q P hR hp kk
  refine ha W σ env H _ _ hR hp fun v x H1 g1 r1 q1 => ?_
  refine hb W σ env H1 _ _ (hR.go g1) q1 fun v2 y H2 g2 r2 q2 => ?_
  obtain ⟨ds, n, rfl, rfl, l1, l2, n1, n2, q⟩ := q2
  obtain ⟨p, xs, rfl, e1, a1⟩ := dq_lst (r1.mv g2.vw rfl).dp
  cases r2.dp
  have ez := dqa_len a1
  have s := sizeLine_eq
  refine ⟨p, n, xs, rfl, rfl, vw_sub _ _ e1, by omega, by omega, by rw [ez]; omega, fun p2 hp2 => ?_⟩
  exact kk p2 _ _ _ ((g1.trans g2).trans (.new g2.ok hp2)) ((g1.trans g2).free hp2) upd_same ((dqa_rep n.toNat a1).mv (vw_add_same g2.ok hp2)) q
theorem qf_repL (ha : QE X B m0 a ta pa) (hb : QE X B m0 c tb pb) : QF X B m0 (.BinOp a .Mult c pos) (tOp rRep ta tb) (pRepL pa pb) := ⟨(qe_op op_rep so_repL ha hb).p, sf_repL (b := bs X B m0) ha.s hb.s⟩
theorem w_repL {P : List PyData → Prop} (h : pa env fun x => pb env (repK P x)) : pRepL pa pb env P := h
end
end VP
namespace VP
open PySem PySem.Spec PyProof.Rows L2 VB VZ VC RT
section
variable {b : Bs} {t1 t2 t3 : TE} {p1 : PTE} {p2 p3 : PTL} {i j l : Nat}
def pPar3XOO (i j l : Nat) (p1 : PTE) (p2 p3 : PTL) : PTS := fun Pn env => p1 env fun d => p2 env fun es => p3 env fun fs => Pn.nx (((env.set i d).set j (.own es)).set l (.own fs))
theorem ss_par3XOO (h1 : SE b t1 p1) (h2 : SF b t2 p2) (h3 : SF b t3 p3) : SS b (tPar3 i j l (tCons t1 (tCons t2 (tCons t3 tNil)))) (pPar3XOO i j l p1 p2 p3) := fun V W σ env H Dn Pn hR hV hE hp =>
  h1 W σ env H _ _ hR hp fun v d H1 g1 rv q1 => by
    have hR1 := hR.go g1
    refine h2 W σ env H1 _ _ hR1 q1 fun a vs ds H2 g2 n2 e2 da q2 => ?_
    have r2 : Rl b ⟨W.m.add a, W.ow⟩ σ env H2 := hR1.hide g2 n2 (by rw [e2]; intro z; cases z)
    refine h3 ⟨W.m.add a, W.ow⟩ σ env H2 _ _ r2 q2 fun c ws fs H3 g3 n3 e3 db q3 => ?_
    have s0 := hR1.set (i := i) rv
    obtain ⟨s1, v1⟩ := s0.setOwn (i := j) g2 n2 e2 da
    have g3' : Go (⟨W.m.add a, fun k => if k = j then some a else W.ow k⟩ : Wd).m H2 H3 := g3
    obtain ⟨s2, v2⟩ := s1.setOwn (i := l) g3' n3 e3 db
    exact ⟨v, .ref a, .ref c, rfl, hE.nx _ _ _ H3 s2 ((hV.trans g1.vw).trans (v1.trans v2)) q3⟩
theorem w_par3XOO {env : PEnv} {Pn : PEn} (h : p1 env fun d => p2 env fun es => p3 env fun fs => Pn.nx (((env.set i d).set j (.own es)).set l (.own fs))) : pPar3XOO i j l p1 p2 p3 Pn env := h
variable {X : Cx} {B : Hp} {m0 : Md} {x y z : Str} {a c e : Expr} {px py pz pt pos : Pos}
theorem qs_par3XOO {kt k2 pt2} (hc : X.calm = true) (hN : X.N.Nodup) (hi : X.N[i]? = some x) (hj : X.N[j]? = some y) (hl : X.N[l]? = some z) (hij : i ≠ j) (hil : i ≠ l) (hjl : j ≠ l)
    (hx : X.env.scope.names.lookup x = some .local) (hy : X.env.scope.names.lookup y = some .local) (hz : X.env.scope.names.lookup z = some .local)
    (h1 : QE X B m0 a t1 p1) (h2 : QF X B m0 c t2 p2) (h3 : QF X B m0 e t3 p3)
    (hw : swappedStores [.Tuple [.Name x px, .Name y py, .Name z pz] kt pt] (.Tuple [a, c, e] k2 pt2) X.env = pure (some [x, y, z]))
    (st1 : starEach [a, c, e] X.env = (false, eval a X.env) :: starEach [c, e] X.env := by rfl) (st2 : starEach [c, e] X.env = (false, eval c X.env) :: starEach [e] X.env := by rfl) (st3 : starEach [e] X.env = (false, eval e X.env) :: starEach [] X.env := by rfl)
    (hs : swapsWithSole [.Tuple [.Name x px, .Name y py, .Name z pz] kt pt] (.Tuple [a, c, e] k2 pt2) pos.line X.env = pure false := by rfl) :
    QS X B m0 (.Assign [.Tuple [.Name x px, .Name y py, .Name z pz] kt pt] (.Tuple [a, c, e] k2 pt2) pos) (tPar3 i j l (tCons t1 (tCons t2 (tCons t3 tNil)))) (pPar3XOO i j l p1 p2 p3) := ⟨ps_par3 hc hN hi hj hl hij hil hjl hx hy hz (pa_cons h1.p (pa_cons h2.p (pa_cons h3.p pa_nil st3) st2) st1) hw hs, ss_par3XOO h1.s h2.s h3.s⟩
end
end VP

/-! VQ14: a course's weight by a law -/
namespace VP
open PySem PySem.Spec PyProof.Rows L2 VB VZ VC RT
def fstW (st : Nat → Int) (sp : Nat → Nat → Int) (us : List Nat) (u : Nat) : Int := match us.getLast? with
  | none => st u
  | some s => sp s u
theorem wholeR_snoc (st : Nat → Int) (sp : Nat → Nat → Int) (tl : Nat → Option Nat → Int) (o : Option Nat) (u : Nat) (os : List (Option Nat)) (us : List Nat) (h : os.length = us.length) :
    wholeR st sp tl (os ++ [o]).reverse (us ++ [u]).reverse = wholeR st sp tl os.reverse us.reverse * (fstW st sp us u * tl u o) := by
  rw [List.reverse_append, List.reverse_append]
  show wholeR st sp tl (o :: os.reverse) (u :: us.reverse) = _
  cases e : us.reverse with
  | nil =>
    have e1 : us = [] := List.reverse_eq_nil_iff.mp e
    subst e1
    have e2 : os = [] := List.length_eq_zero_iff.mp h
    subst e2
    show st u * tl u o = 1 * (st u * tl u o)
    rw [Int.one_mul]
  | cons s r =>
    have eu : us = r.reverse ++ [s] := by rw [← List.reverse_reverse us, e, List.reverse_cons]
    have el : us.getLast? = some s := by rw [eu, List.getLast?_append]; rfl
    cases e2 : os.reverse with
    | nil =>
      have q1 : os.length = 0 := by rw [← List.length_reverse, e2]; rfl
      have q2 : us.length = r.length + 1 := by rw [← List.length_reverse, e]; rfl
      omega
    | cons o2 v =>
      show wholeR st sp tl (o2 :: v) (s :: r) * (sp s u * tl u o) = _
      unfold fstW
      rw [el]
/-- a course's weight -/
def lwW (c : Ch) (os : List (Option Nat)) (us : List Nat) : Int := wholeR (lS c) (lP c) (ltW c) os.reverse us.reverse
/-- a way's weight from a state on -/
def lwO (c : Ch) (s : Nat) (os : List (Option Nat)) (us : List Nat) : Int := wholeR (lP c s) (lP c) (ltW c) os.reverse us.reverse
section
variable {B n k : Nat} {c : Ch}
theorem whole_nb {st : Nat → Int} {sp : Nat → Nat → Int} {tl : Nat → Option Nat → Int} (hs : ∀ u, u < n → 0 ≤ st u ∧ Bd B (st u)) (hp : ∀ s u, s < n → u < n → 0 ≤ sp s u ∧ Bd B (sp s u)) (ht : ∀ u o, u < n → (∀ j, o = some j → j < k) → 0 ≤ tl u o ∧ Bd B (tl u o)) :
    ∀ (r : List (Option Nat)) (us : List Nat), Okv k r → (∀ u ∈ us, u < n) → 0 ≤ wholeR st sp tl r us ∧ Bd (2 * B * r.length + 1) (wholeR st sp tl r us)
  | [], _, _, _ => by unfold wholeR; exact ⟨by decide, one_bd (by omega)⟩
  | [o], [], _, _ => by unfold wholeR; exact ⟨by decide, one_bd (by omega)⟩
  | [o], [u], ho, hu => by
    have a := hs u (hu u (by simp))
    have b := ht u o (hu u (by simp)) (ho o (by simp))
    exact ⟨Int.mul_nonneg a.1 b.1, (a.2.mul b.2).mono (by simp; omega)⟩
  | o :: o2 :: v, [], _, _ => by unfold wholeR; exact ⟨by decide, one_bd (by omega)⟩
  | o :: o2 :: v, [u], _, _ => by unfold wholeR; exact ⟨by decide, one_bd (by omega)⟩
  | [o], u :: s :: r, ho, hu => by
    have b := ht u o (hu u (by simp)) (ho o (by simp))
    have p := hp s u (hu s (by simp)) (hu u (by simp))
    have ih := whole_nb hs hp ht [] (s :: r) (fun x hx => nomatch hx) (fun x hx => hu x (by simp [List.mem_cons.mp hx]))
    exact ⟨Int.mul_nonneg ih.1 (Int.mul_nonneg p.1 b.1), (ih.2.mul (p.2.mul b.2)).mono (by simp; omega)⟩
  | o :: o2 :: v, u :: s :: r, ho, hu => by
    have b := ht u o (hu u (by simp)) (ho o (by simp))
    have p := hp s u (hu s (by simp)) (hu u (by simp))
    have ih := whole_nb hs hp ht (o2 :: v) (s :: r) (fun x hx => ho x (by simp [List.mem_cons.mp hx])) (fun x hx => hu x (by simp [List.mem_cons.mp hx]))
    refine ⟨Int.mul_nonneg ih.1 (Int.mul_nonneg p.1 b.1), (ih.2.mul (p.2.mul b.2)).mono ?_⟩
    have e : 2 * B * (o :: o2 :: v).length = 2 * B * (o2 :: v).length + 2 * B := by rw [List.length_cons]; exact Nat.mul_succ _ _
    omega
theorem lwW_nb (h : Lw B n k c) {os : List (Option Nat)} {us : List Nat} (ho : Okv k os) (hu : ∀ u ∈ us, u < n) : 0 ≤ lwW c os us ∧ Bd (2 * B * os.length + 1) (lwW c os us) := by
  have := whole_nb (st := lS c) (fun u hu => h.sn hu) (fun s u hs hu => h.pn hs hu) (fun u o hu ho => h.tn hu ho) os.reverse us.reverse ho.rev fun u hx => hu u (List.mem_reverse.mp hx)
  rwa [List.length_reverse] at this
theorem lwO_nb (h : Lw B n k c) {s : Nat} (hs : s < n) {os : List (Option Nat)} {us : List Nat} (ho : Okv k os) (hu : ∀ u ∈ us, u < n) : 0 ≤ lwO c s os us ∧ Bd (2 * B * os.length + 1) (lwO c s os us) := by
  have := whole_nb (st := lP c s) (fun u hu => h.pn hs hu) (fun s u hs hu => h.pn hs hu) (fun u o hu ho => h.tn hu ho) os.reverse us.reverse ho.rev fun u hx => hu u (List.mem_reverse.mp hx)
  rwa [List.length_reverse] at this
/-- a share -/
def lwQ (c : Ch) : List (Option Nat) → List Nat → Rat
  | o :: [], u :: [] => qS c u * qT c u o
  | o :: v, u :: s :: r => lwQ c v (s :: r) * (qP c s u * qT c u o)
  | _, _ => 1
end
theorem courses_n (n : Nat) : ∀ i, (courses n i).length = n ^ i
  | 0 => rfl
  | i + 1 => by
    show ((courses n i).flatMap _).length = _
    rw [List.length_flatMap]
    have e : ((courses n i).map fun c => ((List.range n).map fun u => c ++ [u]).length) = (courses n i).map fun _ => n := List.map_congr_left fun c _ => by simp
    rw [e, List.map_const', List.sum_replicate_nat, courses_n n i, Nat.pow_succ]
theorem sum_take {α : Type} (f : α → Int) {l : List α} {j : Nat} {x : α} (h : l[j]? = some x) : ((l.take (j + 1)).map f).sum = ((l.take j).map f).sum + f x := by
  rw [List.take_add_one, h]
  simp
end VP
namespace VP
open PySem PySem.Spec PyProof.Rows L2 VB VZ VC RT
/-! x, y = new, e, where a name stands in a cell: by a tuple -/
section
variable {b : Bs} {t1 t2 : TE} {p1 : PTL} {p2 : PTE} {i j : Nat}
theorem ss_tupOX (h1 : SF b t1 p1) (h2 : SE b t2 p2) : SS b (tAsg (tTup (tCons t1 (tCons t2 tNil))) (gTup b.K 2 (gCons (gName i) (gCons (gName j) gNil)))) (pParOX i j p1 p2) := fun V W σ env H Dn Pn hR hV hE hp =>
  h1 W σ env H _ _ hR hp fun a vs ds H1 g1 n1 e1 da q1 => by
    have r1 : Rl b ⟨W.m.add a, W.ow⟩ σ env H1 := hR.hide g1 n1 (by rw [e1]; intro z; cases z)
    refine h2 ⟨W.m.add a, W.ow⟩ σ env H1 _ _ r1 q1 fun v d H2 g2 rv q2 => ?_
    obtain ⟨s1, v1⟩ := hR.setOwn (i := i) g1 n1 e1 da
    have g2' : Go (⟨W.m.add a, fun k => if k = i then some a else W.ow k⟩ : Wd).m H1 H2 := g2
    refine ⟨Nat.le_of_lt (small1000 (show 2 ≤ 1000 by decide)), fun c hc => ?_⟩
    have g3 : Go (W.m.add a) H2 (upd H2 c (.tup [.ref a, v])) := .new g2.ok hc
    have g3' : Go (⟨W.m.add a, fun k => if k = i then some a else W.ow k⟩ : Wd).m H2 (upd H2 c (.tup [.ref a, v])) := g3
    exact ⟨c, [.ref a, v], rfl, SqT.of upd_same, rfl, .ref a, [v], rfl, v, [], rfl, rfl, hE.nx _ _ _ _ (((s1.go g2').go g3').set (rv.mv g3.vw rfl)) ((hV.trans (v1.trans g2.vw)).trans g3.vw) q2⟩
variable {X : Cx} {B : Hp} {m0 : Md} {x y : Str} {a c : Expr} {px py pt pos : Pos}
theorem qs_tupOX {kt kz pt2} (hc : X.calm = true) (k1 : PG X (.Name x px) (gName i)) (k2 : PG X (.Name y py) (gName j))
    (h1 : QF X B m0 a t1 p1) (h2 : QE X B m0 c t2 p2) (hw : swappedStores [.Tuple [.Name x px, .Name y py] kt pt] (.Tuple [a, c] kz pt2) X.env = pure none := by rfl) (st1 : starEach [a, c] X.env = (false, eval a X.env) :: starEach [c] X.env := by rfl) (st2 : starEach [c] X.env = (false, eval c X.env) :: starEach [] X.env := by rfl)
    (hs : swapsWithSole [.Tuple [.Name x px, .Name y py] kt pt] (.Tuple [a, c] kz pt2) pos.line X.env = pure false := by rfl)
    (hn : (assignEach [.Name x px, .Name y py] X.env).length = 2 := by rfl) (hst : (assignEach [.Name x px, .Name y py] X.env).findIdx? (·.1) = none := by rfl)
    (hs1 : (assignEach [.Name x px, .Name y py] X.env).map (·.2) = assign (.Name x px) X.env :: (assignEach [.Name y py] X.env).map (·.2) := by rfl) (hs2 : (assignEach [.Name y py] X.env).map (·.2) = assign (.Name y py) X.env :: (assignEach [] X.env).map (·.2) := by rfl)
    (ht : (assignEach [.Tuple [.Name x px, .Name y py] kt pt] X.env).map (·.2) = [assign (.Tuple [.Name x px, .Name y py] kt pt) X.env] := by rfl) :
    QS X B m0 (.Assign [.Tuple [.Name x px, .Name y py] kt pt] (.Tuple [a, c] kz pt2) pos) (tAsg (tTup (tCons t1 (tCons t2 tNil))) (gTup X.K 2 (gCons (gName i) (gCons (gName j) gNil)))) (pParOX i j p1 p2) :=
  ⟨ps_asg (pe_tup (pa_cons h1.p (pa_cons h2.p pa_nil st2) st1)) (pg_tup hc (pgs_cons k1 (pgs_cons k2 pgs_nil hs2) hs1) hn hst) hs hw ht, ss_tupOX (b := bs X B m0) h1.s h2.s⟩
end
end VP

/-! VQ15: try, except -/
namespace VP
open PySem PySem.Spec PyProof.Rows L2 VB VZ VC RT
/-- the address of an exception -/
def excD (a : Addr) : D := .ext (fun v _ => v = .ref a) (fun _ _ _ _ h => h)
section
variable {b : Bs} {W : Wd} {σ : L2.St} {env : PEnv} {H : Hp} {V : Hp}
open Classical in
noncomputable def trimW (W : Wd) : Wd := ⟨W.m, fun i => match W.ow i with | some a => if a ∈ W.m.ex then some a else none | none => none⟩
theorem trim_some {i : Nat} {a : Addr} (e : (trimW W).ow i = some a) : W.ow i = some a ∧ a ∈ W.m.ex := by
  unfold trimW at e
  simp only at e
  split at e
  · rename_i c q
    split at e
    · cases e
      exact ⟨q, by assumption⟩
    · cases e
  · cases e
theorem trim_of {i : Nat} {a : Addr} (e : W.ow i = some a) (h : a ∈ W.m.ex) : (trimW W).ow i = some a := by
  unfold trimW
  simp only [e, if_pos h]
theorem Rl.trim (h : Rl b W σ env H) : Rl b (trimW W) σ env H where
  ok := h.ok
  dk := h.dk
  ex := h.ex
  same := h.same
  boff := h.boff
  exB := h.exB
  own := fun i a e => h.own i a (trim_some e).1
  inj := fun i j a e f => h.inj i j a (trim_some e).1 (trim_some f).1
  len := h.len
  sl := fun i d e => by
    obtain ⟨o, h1, h2⟩ := h.sl i d e
    refine ⟨o, h1, ?_⟩
    cases d with
    | no => trivial
    | own ds =>
      obtain ⟨a, vs, g1, g2, g3, g4, g5⟩ := h2
      exact ⟨a, vs, trim_of g1 g3, g2, g3, g4, g5⟩
    | py p => exact h2
    | rng n => exact h2
    | rcd kvs => exact h2
    | deck => exact h2
    | ext R mono => exact h2
open Classical in
/-- all that stands now, but what is one's own -/
noncomputable def nowB (b : Bs) (W : Wd) (H : Hp) : Hp := fun a => if (a ∈ W.m.ex ∧ a ∉ b.m0.ex) ∨ ¬ b.m0.off a then none else H a
theorem nowB_some {a : Addr} {o : HO} (e : nowB b W H a = some o) : ¬ (a ∈ W.m.ex ∧ a ∉ b.m0.ex) ∧ b.m0.off a ∧ H a = some o := by
  unfold nowB at e
  split at e
  · cases e
  · rename_i c
    exact ⟨fun h => c (.inl h), Classical.byContradiction fun h => c (.inr h), e⟩
theorem nowB_of {a : Addr} {o : HO} (h1 : ¬ (a ∈ W.m.ex ∧ a ∉ b.m0.ex)) (h2 : b.m0.off a) (e : H a = some o) : nowB b W H a = some o := by
  unfold nowB
  rw [if_neg (fun c => c.elim h1 (fun h => h h2))]
  exact e
theorem nowB_none {a : Addr} (h1 : a ∈ W.m.ex) (h2 : a ∉ b.m0.ex) : nowB b W H a = none := by
  unfold nowB
  rw [if_pos (.inl ⟨h1, h2⟩)]
theorem Rl.now (h : Rl b W σ env H) : Rl ⟨b.K, nowB b (trimW W) H, b.m0⟩ (trimW W) σ env H where
  ok := h.ok
  dk := h.dk
  ex := h.ex
  same := fun a o e => (nowB_some e).2.2
  boff := fun a o e => (nowB_some e).2.1
  exB := fun a ha => by
    by_cases c : a ∈ b.m0.ex
    · exact .inl c
    · exact .inr (nowB_none ha c)
  own := fun i a e => ⟨nowB_none (trim_some e).2 (h.own i a (trim_some e).1).2.2.2, (h.own i a (trim_some e).1).2⟩
  inj := h.trim.inj
  len := h.len
  sl := h.trim.sl
variable {W' : Wd} {σ' : L2.St} {env' : PEnv} {H' : Hp}
theorem Rl.back (h : Rl b W σ env H) (r : Rl ⟨b.K, nowB b (trimW W) H, b.m0⟩ W' σ' env' H') : Rl b W' σ' env' H' := by
  have up : ∀ a o, b.B a = some o → nowB b (trimW W) H a = some o := fun a o e => nowB_of (fun ⟨h1, h2⟩ => (h.exB a h1).elim h2 fun q => by rw [q] at e; cases e) (h.boff a o e) (h.same a o e)
  have dn : ∀ a, nowB b (trimW W) H a = none → b.B a = none := fun a e => by
    cases q : b.B a with
    | none => rfl
    | some o => rw [up a o q] at e; cases e
  exact ⟨r.ok, r.dk, r.ex, fun a o e => r.same a o (up a o e), h.boff, fun a ha => (r.exB a ha).imp id (dn a), fun i a e => ⟨dn a (r.own i a e).1, (r.own i a e).2⟩, r.inj, r.len, r.sl⟩
theorem Rl.view (h : Rl b W σ env H) (hV : Same V (VC.vw W.m H)) (r : Rl ⟨b.K, nowB b (trimW W) H, b.m0⟩ W' σ' env' H') : Same V (VC.vw W'.m H') := fun a o e => by
  obtain ⟨h1, h2, h3⟩ := vw_some (hV a o e)
  have nw : nowB b (trimW W) H a = some o := nowB_of (fun q => h1 q.1) (off_of h.dk.symm h2) h3
  refine (vw_get (fun q => ?_) (off_of (r.dk.trans h.dk.symm) h2)).trans (r.same a o nw)
  rcases r.exB a q with z | z
  · exact h1 (h.ex a z)
  · have z : nowB b (trimW W) H a = none := z
    rw [nw] at z
    cases z
end
/-! ### the statement -/
abbrev SuP := Addr → Value → Option Addr → PTS
def endW (i : Nat) (Pn : PEn) : PEn := { nx := fun e => Pn.nx (e.set i .no), rt := Pn.rt, bk := fun e => Pn.bk (e.set i .no), ct := fun e => Pn.ct (e.set i .no) }
def tryE (K : PySem.W.Frag) (C : Value) (i : Nat) (psu : SuP) (Pn : PEn) : PEnv → Ex → Prop := fun env ex => ex.fld = none ∧ PySem.W.exmOne K ex.cls C = some true ∧ ∀ a, psu a ex.cls none (endW i Pn) (env.set i (excD a))
def pTryAs (K : PySem.W.Frag) (C : Value) (i : Nat) (pb : (PEnv → Ex → Prop) → PTS) (psu : SuP) : PTS := fun Pn env => pb (tryE K C i psu Pn) Pn env
theorem ss_tryAs {b : Bs} {C : Value} {i : Nat} {tb : WX → TS} {ts : Addr → Value → Option Addr → TS} {Wout : WX} {pb : (PEnv → Ex → Prop) → PTS} {psu : SuP}
    (hb : ∀ B (W : WX) (XE : PEnv → Ex → Prop), LkX ⟨b.K, B, b.m0⟩ (WE W) XE → SS ⟨b.K, B, b.m0⟩ (tb W) (pb XE)) (hsu : ∀ a cls, SS b (ts a cls none) (psu a cls none)) :
    SS b (fun D σ H => tb (wAs b.K C i ts Wout D) D σ H) (pTryAs b.K C i pb psu) := fun V W σ env H Dn Pn hR hV hE hp => by
  have hE' : EnR ⟨b.K, nowB b (trimW W) H, b.m0⟩ V Pn Dn := ⟨fun W1 σ1 e1 H1 r => hE.nx W1 σ1 e1 H1 (hR.back r), fun W1 σ1 e1 H1 r => hE.bk W1 σ1 e1 H1 (hR.back r), fun W1 σ1 e1 H1 r => hE.ct W1 σ1 e1 H1 (hR.back r), fun W1 σ1 e1 H1 v d r => hE.rt W1 σ1 e1 H1 v d (hR.back r)⟩
  refine hb _ _ (tryE b.K C i psu Pn) (fun W0 σ0 env0 H0 cls d e r0 xr q => ?_) V (trimW W) σ env H Dn Pn hR.now hV hE' hp
  obtain ⟨q1, q2, q3⟩ := q
  obtain ⟨rfl, h2⟩ := xr
  rw [q1] at h2
  have h2 : d = none := h2
  subst h2
  refine ⟨true, q2, fun _ a ha => ?_, fun y => nomatch y⟩
  have r1 := hR.back r0
  refine hsu a e.cls V W0 _ _ H0 _ (endW i Pn) (r1.set (i := i) (d := excD a) (v := .ref a) rfl) (hR.view hV r0) ⟨fun W1 σ1 e1 H1 r v p => hE.nx W1 _ _ H1 (r.forget none) v p, fun W1 σ1 e1 H1 r v p => hE.bk W1 _ _ H1 (r.forget none) v p, fun W1 σ1 e1 H1 r v p => hE.ct W1 _ _ H1 (r.forget none) v p, hE.rt⟩ (q3 a)
def tryO (K : PySem.W.Frag) (C : Value) (psu : SuP) (Pn : PEn) : PEnv → Ex → Prop := fun env ex => ex.fld = none ∧ PySem.W.exmOne K ex.cls C = some true ∧ ∀ a, psu a ex.cls none Pn env
def pTryO (K : PySem.W.Frag) (C : Value) (pb : (PEnv → Ex → Prop) → PTS) (psu : SuP) : PTS := fun Pn env => pb (tryO K C psu Pn) Pn env
theorem ss_tryO {b : Bs} {C : Value} {tb : WX → TS} {ts : Addr → Value → Option Addr → TS} {Wout : WX} {pb : (PEnv → Ex → Prop) → PTS} {psu : SuP}
    (hb : ∀ B (W : WX) (XE : PEnv → Ex → Prop), LkX ⟨b.K, B, b.m0⟩ (WE W) XE → SS ⟨b.K, B, b.m0⟩ (tb W) (pb XE)) (hsu : ∀ a cls, SS b (ts a cls none) (psu a cls none)) :
    SS b (fun D σ H => tb (wOnly b.K C ts Wout D) D σ H) (pTryO b.K C pb psu) := fun V W σ env H Dn Pn hR hV hE hp => by
  have hE' : EnR ⟨b.K, nowB b (trimW W) H, b.m0⟩ V Pn Dn := ⟨fun W1 σ1 e1 H1 r => hE.nx W1 σ1 e1 H1 (hR.back r), fun W1 σ1 e1 H1 r => hE.bk W1 σ1 e1 H1 (hR.back r), fun W1 σ1 e1 H1 r => hE.ct W1 σ1 e1 H1 (hR.back r), fun W1 σ1 e1 H1 v d r => hE.rt W1 σ1 e1 H1 v d (hR.back r)⟩
  refine hb _ _ (tryO b.K C psu Pn) (fun W0 σ0 env0 H0 cls d e r0 xr q => ?_) V (trimW W) σ env H Dn Pn hR.now hV hE' hp
  obtain ⟨q1, q2, q3⟩ := q
  obtain ⟨rfl, h2⟩ := xr
  rw [q1] at h2
  have h2 : d = none := h2
  subst h2
  exact ⟨true, q2, fun _ a ha => hsu a e.cls V W0 _ _ H0 _ Pn (hR.back r0) (hR.view hV r0) hE (q3 a), fun y => nomatch y⟩
section
variable {X : Cx} {B : Hp} {m0 : Md} {x n : Str} {c : Value} {i : Nat} {body suite : List Stmt} {b₀ : Stmt} {np pos pos' : Pos} {tb : WX → TS} {ts : Addr → Value → Option Addr → TS} {Wout : WX} {pb : (PEnv → Ex → Prop) → PTS} {psu : SuP}
theorem qs_tryAs {K' : PySem.W.Frag} (hs : X.stack = X.env :: X.outer) (hf : X.env.frame = some X.env.locals) (hN : X.N.Nodup) (hi : X.N[i]? = some n) (hln : X.env.kindOf n = some .local) (hc : Names X x c) (tk : Takes X Wout)
    (hb : ∀ (BB : Hp) (W : WX) (XE : PEnv → Ex → Prop) (pn : List (Addr × Obj)) (xe : Value → Shared → Prop), Takes (X.tr pn xe) W → LkX (bs X BB m0) (WE W) XE → QSs (X.tr pn xe) BB m0 body (tb W) (pb XE))
    (hsu : ∀ (a : Addr) (oe : Obj) (cls : Value) (d : Option Addr) (pn : List (Addr × Obj)), Zc cls d oe → (∃ vs, oe.data = .fields vs) → QSs (X.suite a ((a, oe) :: pn)) B m0 (b₀ :: suite) (ts a cls d) (psu a cls d)) (hK : X.K = K' := by rfl) :
    QS X B m0 (.Try body [.ExceptHandler (some (.Name x np)) (some n) (b₀ :: suite) pos'] [] [] pos) (fun D σ H => tb (wAs K' c i ts Wout D) D σ H) (pTryAs K' c i pb psu) := by
  subst hK
  refine ⟨ps_try_as hs hf hN hi hln hc tk (fun W pn xe tk2 _ => (hb B W (fun _ _ => False) pn xe tk2 (fun _ _ _ _ _ _ _ _ _ h => h.elim)).p) (fun a oe cls d pn hz hf2 => (hsu a oe cls d pn hz hf2).p), ?_⟩
  refine ss_tryAs (b := bs X B m0) (fun BB W XE lk => (hb BB W XE [] (fun _ _ => True) (fun _ _ _ => trivial) lk).s) (fun a cls => ?_)
  exact (hsu a { cls := cls, dict := none, data := .fields #[] } cls none [] ⟨rfl, rfl⟩ ⟨_, rfl⟩).s
theorem qs_tryO {K' : PySem.W.Frag} (hs : X.stack = X.env :: X.outer) (hf : X.env.frame = some X.env.locals) (hc : Names X x c) (tk : Takes X Wout)
    (hb : ∀ (BB : Hp) (W : WX) (XE : PEnv → Ex → Prop) (pn : List (Addr × Obj)) (xe : Value → Shared → Prop), Takes (X.tr pn xe) W → LkX (bs X BB m0) (WE W) XE → QSs (X.tr pn xe) BB m0 body (tb W) (pb XE))
    (hsu : ∀ (a : Addr) (oe : Obj) (cls : Value) (d : Option Addr) (pn : List (Addr × Obj)), Zc cls d oe → (∃ vs, oe.data = .fields vs) → QSs (X.suite a ((a, oe) :: pn)) B m0 (b₀ :: suite) (ts a cls d) (psu a cls d)) (hK : X.K = K' := by rfl) :
    QS X B m0 (.Try body [.ExceptHandler (some (.Name x np)) none (b₀ :: suite) pos'] [] [] pos) (fun D σ H => tb (wOnly K' c ts Wout D) D σ H) (pTryO K' c pb psu) := by
  subst hK
  refine ⟨ps_try_only hs hf hc tk (fun W pn xe tk2 _ => (hb B W (fun _ _ => False) pn xe tk2 (fun _ _ _ _ _ _ _ _ _ h => h.elim)).p) (fun a oe cls d pn hz hf2 => (hsu a oe cls d pn hz hf2).p), ?_⟩
  refine ss_tryO (b := bs X B m0) (fun BB W XE lk => (hb BB W XE [] (fun _ _ => True) (fun _ _ _ => trivial) lk).s) (fun a cls => ?_)
  exact (hsu a { cls := cls, dict := none, data := .fields #[] } cls none [] ⟨rfl, rfl⟩ ⟨_, rfl⟩).s
/-! ### isinstance of what a suite holds; classes -/
theorem qe_cls {p : Pos} {C : Addr} (hm : X.mg x = some (.ref C)) (hg : Gl X x := by rfl) (hd : (x == ("__debug__" : Str)) = false := by decide) : QE X B m0 (.Name x p) (tC (.ref C)) (fun _ P => P (excD C)) :=
  ⟨pe_glob hg hm rfl hd, fun W σ env H Q P hR hp k => k _ _ H (.refl hR.ok) (show RD _ _ _ (.ref C) (excD C) from rfl) hp⟩
def tyD (T : String) : D := .ext (fun v _ => v = .ty T) (fun _ _ _ _ h => h)
theorem qe_bty {p : Pos} {T : String} (hm : X.mg x = none) (hv : bootBuiltins x = some (.type T)) (hg : Gl X x := by rfl) (hn : x ≠ "__name__" := by decide) (hd : (x == ("__debug__" : Str)) = false := by decide) : QE X B m0 (.Name x p) (tC (.ty T)) (fun _ P => P (tyD T)) :=
  ⟨pe_bltn hg hm hv rfl hn hd, fun W σ env H Q P hR hp k => k _ _ H (.refl hR.ok) (show RD _ _ _ (.ty T) (tyD T) from rfl) hp⟩
def oIsE (K : PySem.W.Frag) (D0 a : Addr) (cls : Value) (d : Option Addr) : PC := fun ds P => cls = .ref D0 ∧ d = none ∧ ∃ (y : D) (u : Value) (k : Bool), ds = [excD a, y] ∧ ((∃ C, y = excD C ∧ u = .ref C) ∨ ∃ T, y = tyD T ∧ u = .type T) ∧ PySem.W.kitOne K (.ref D0) u = some k ∧ P (.py (.bool k))
theorem sc_isE {K : PySem.W.Frag} {D0 a : Addr} {cls : Value} {d : Option Addr} : SC K (rIsE2 K D0 a cls d) (oIsE K D0 a cls d) := fun m H xs ds Q P ho rx q k => by
  obtain ⟨h1, h2, y, u, b, rfl, hy, hk, hp⟩ := q
  obtain ⟨v, w, rfl, r1, r2⟩ := rds2 rx
  have r1 : v = .ref a := r1
  subst r1
  refine ⟨h1, h2, w, u, b, rfl, ?_, hk, k _ _ H (.refl ho) (rdp (.bl _)) hp⟩
  rcases hy with ⟨C, rfl, rfl⟩ | ⟨T, rfl, rfl⟩
  · have r2 : w = .ref C := r2
    subst r2
    exact fun u z => z
  · have r2 : w = .ty T := r2
    subst r2
    exact fun u z => z
theorem w_isE {K : PySem.W.Frag} {D0 a C : Addr} {k : Bool} {P : D → Prop} (hk : PySem.W.kitOne K (.ref D0) (.ref C) = some k) (q : P (.py (.bool k))) : oIsE K D0 a (.ref D0) none [excD a, excD C] P := ⟨rfl, rfl, _, _, k, rfl, .inl ⟨C, rfl, rfl⟩, hk, q⟩
theorem w_isET {K : PySem.W.Frag} {D0 a : Addr} {T : String} {k : Bool} {P : D → Prop} (hk : PySem.W.kitOne K (.ref D0) (.type T) = some k) (q : P (.py (.bool k))) : oIsE K D0 a (.ref D0) none [excD a, tyD T] P := ⟨rfl, rfl, _, _, k, rfl, .inr ⟨T, rfl, rfl⟩, hk, q⟩
end
end VP

/-! VQ16: what is told of states, of pairs, of next signs -/
namespace VP
open PySem PySem.Spec PyProof.Rows L2 VB VZ VC RT
theorem paQ_on (c : Ch) (n : Nat) : ∀ (r : List (Option Nat)) (o : Option Nat) (u : Nat), paQ c n (o :: r) u = onQ c n r u * qT c u o
  | [], o, u => rfl
  | o2 :: r, o, u => by
    show sumQ n (fun s => paQ c n (o2 :: r) s * qP c s u) * qT c u o = sumQ n (fun s => onQ c n r s * qT c s o2 * qP c s u) * qT c u o
    congr 1
    exact sumQ_congr fun s _ => by rw [paQ_on c n r o2 s]
def sQ (c : Ch) (n : Nat) (os : List (Option Nat)) (i u : Nat) : Rat := aQ c n os i u * bQ c n os i u / chQ c n os
def pQ (c : Ch) (n : Nat) (os : List (Option Nat)) (i s u : Nat) : Rat := aQ c n os i s * (qP c s u * (qT c u (os.getD (i + 1) none) * bQ c n os (i + 1) u)) / chQ c n os
def nQ (c : Ch) (n : Nat) (os : List (Option Nat)) (j : Nat) : Rat := chQ c n (os ++ [some j]) / chQ c n os
section
variable {b n k L : Nat} {c : Ch} {os : List (Option Nat)}
theorem ab_sum {i : Nat} (hi : i < os.length) : sumQ n (fun u => aQ c n os i u * bQ c n os i u) = chQ c n os := by
  have er := rev_take' (os := os) hi
  have h := paQ_wy c n (os.drop (i + 1)) (os.take i).reverse os[i]
  have e : (os.drop (i + 1)).reverse ++ os[i] :: (os.take i).reverse = os.reverse := by
    rw [← er, ← List.reverse_append, List.take_append_drop]
  rw [e] at h
  show sumQ n (fun u => paQ c n (os.take (i + 1)).reverse u * wyQ c n (os.drop (i + 1)) u) = sumQ n (paQ c n os.reverse)
  rw [er]
  exact h
theorem sQ_one {i : Nat} (hi : i < os.length) (h0 : chQ c n os ≠ 0) : sumQ n (sQ c n os i) = 1 := by
  have e : sumQ n (sQ c n os i) = sumQ n (fun u => aQ c n os i u * bQ c n os i u * (1 / chQ c n os)) := sumQ_congr fun u _ => by unfold sQ; grind
  rw [e, sumQ_mulR, ab_sum hi]
  grind
theorem getD_at {i : Nat} (hi : i < os.length) : os.getD i none = os[i] := by rw [List.getD_eq_getElem?_getD, List.getElem?_eq_getElem hi]; rfl
theorem pQ_row {i s : Nat} (hi : i + 1 < os.length) : sumQ n (pQ c n os i s) = sQ c n os i s := by
  have e : sumQ n (pQ c n os i s) = sumQ n (fun u => (aQ c n os i s / chQ c n os) * (qP c s u * (qT c u (os.getD (i + 1) none) * bQ c n os (i + 1) u))) := sumQ_congr fun u _ => by unfold pQ; grind
  rw [e, sumQ_mul]
  have ed : os.drop (i + 1) = os[i + 1] :: os.drop (i + 2) := List.drop_eq_getElem_cons hi
  have eb : bQ c n os i s = sumQ n fun u => qP c s u * (qT c u (os.getD (i + 1) none) * bQ c n os (i + 1) u) := by
    show wyQ c n (os.drop (i + 1)) s = _
    rw [ed, getD_at hi]
    rfl
  unfold sQ
  rw [eb]
  grind
theorem pQ_col {i u : Nat} (hi : i + 1 < os.length) : sumQ n (fun s => pQ c n os i s u) = sQ c n os (i + 1) u := by
  have er := rev_take' (os := os) hi
  have e1 : aQ c n os (i + 1) u = sumQ n (fun s => aQ c n os i s * qP c s u) * qT c u os[i + 1] := by
    show paQ c n (os.take (i + 1 + 1)).reverse u = _
    rw [er]
    have e2 := rev_take' (os := os) (i := i) (by omega)
    rw [e2]
    show sumQ n (fun s => paQ c n (os[i] :: (os.take i).reverse) s * qP c s u) * qT c u os[i + 1] = sumQ n (fun s => paQ c n (os.take (i + 1)).reverse s * qP c s u) * qT c u os[i + 1]
    rw [e2]
  unfold sQ
  rw [e1]
  have e : sumQ n (fun s => pQ c n os i s u) = sumQ n (fun s => aQ c n os i s * qP c s u * (qT c u os[i + 1] * bQ c n os (i + 1) u / chQ c n os)) := sumQ_congr fun s _ => by unfold pQ; rw [getD_at hi]; grind
  rw [e, sumQ_mulR]
  grind
theorem wyQ_gap (h : ChOk b n k c) : ∀ (v : List (Option Nat)) (s : Nat), s < n → wyQ c n (v ++ [none]) s = wyQ c n v s
  | [], s, hs => by
    show sumQ n (fun u => qP c s u * (1 * 1)) = 1
    exact (sumQ_congr fun u _ => by grind).trans (qP_one h hs)
  | o :: v, s, hs => sumQ_congr fun u hu => by
    show qP c s u * (qT c u o * wyQ c n (v ++ [none]) u) = _
    rw [wyQ_gap h v u hu]
theorem wyQ_gaps (h : ChOk b n k c) (v : List (Option Nat)) {s : Nat} (hs : s < n) : ∀ m : Nat, wyQ c n (v ++ List.replicate m none) s = wyQ c n v s
  | 0 => by rw [List.replicate_zero, List.append_nil]
  | m + 1 => by
    rw [List.replicate_succ', ← List.append_assoc, wyQ_gap h _ s hs]
    exact wyQ_gaps h v hs m
theorem sQ_gaps (h : ChOk b n k c) {i u : Nat} (hi : i < os.length) (hu : u < n) (m : Nat) : sQ c n (os ++ List.replicate m none) i u = sQ c n os i u := by
  unfold sQ aQ bQ
  rw [chQ_gaps h, List.take_append_of_le_length (by omega), List.drop_append_of_le_length (by omega), wyQ_gaps h _ hu]
/-- what is led on sums to the chance; with a sign to the chance with it -/
theorem on_sum (h : ChOk b n k c) : sumQ n (onQ c n os.reverse) = chQ c n os := by
  cases e : os.reverse with
  | nil =>
    rw [List.reverse_eq_nil_iff.mp e]
    rfl
  | cons o r =>
    have e1 : sumQ n (onQ c n (o :: r)) = sumQ n (fun s => onQ c n r s * qT c s o * sumQ n (fun u => qP c s u)) := by
      have : sumQ n (onQ c n (o :: r)) = sumQ n (fun u => sumQ n fun s => onQ c n r s * qT c s o * qP c s u) := rfl
      rw [this, sumQ_swap]
      exact sumQ_congr fun s _ => sumQ_mul n _ _
    rw [e1]
    show _ = sumQ n (paQ c n os.reverse)
    rw [e]
    exact sumQ_congr fun s hs => by
      have q : sumQ n (fun u => qP c s u) = 1 := qP_one h hs
      rw [q, paQ_on]
      grind
theorem on_sign (c : Ch) (n : Nat) (os : List (Option Nat)) (j : Nat) : sumQ n (fun u => onQ c n os.reverse u * qT c u (some j)) = chQ c n (os ++ [some j]) := by
  show _ = sumQ n (paQ c n (os ++ [some j]).reverse)
  rw [List.reverse_append]
  exact sumQ_congr fun u _ => (paQ_on c n os.reverse (some j) u).symm
theorem nQ_one (h : ChOk b n k c) (h0 : chQ c n os ≠ 0) : sumQ k (nQ c n os) = 1 := by
  have e : sumQ k (nQ c n os) = sumQ k (fun j => chQ c n (os ++ [some j]) * (1 / chQ c n os)) := sumQ_congr fun j _ => by unfold nQ; grind
  rw [e, sumQ_mulR, chQ_behind h]
  grind
/-! nothing is below nought -/
theorem rat_nn {a : Int} {d : Int} {q : Rat} (ha : 0 ≤ a) (hd : 0 < d) (e : (a : Rat) = q * d) : 0 ≤ q := by
  have h1 : (0 : Rat) ≤ (a : Rat) := by exact_mod_cast ha
  have h2 : (0 : Rat) < (d : Rat) := by exact_mod_cast hd
  rw [e] at h1
  exact Rat.le_of_mul_le_mul_right (by rw [Rat.zero_mul]; exact h1) h2
end
theorem eqv_rD (q : Rat) : PyData.eqv (rD q) (rD q) = true := by
  unfold rD
  simp [PyData.eqv, PyData.eqvAll]
end VP

/-! VQ17: the same data; sums and products of shares -/
namespace VP
open PySem PySem.Spec PyProof.Rows L2 VB VZ VC RT
theorem Rb.mul {k l : Nat} {q r : Rat} (h : Rb k q) (g : Rb l r) : Rb (k + l) (q * r) :=
  rb_of (a := q.num * r.num) (b := (q.den : Int) * (r.den : Int)) (Int.mul_ne_zero (den_ne q) (den_ne r)) (h.num.mul g.num) (h.den.mul g.den) (by
    rw [Rat.intCast_mul, Rat.intCast_mul, rat_num q, rat_num r]
    grind)
theorem Rb.div {k l : Nat} {q r : Rat} (h : Rb k q) (g : Rb l r) (hr : r ≠ 0) : Rb (k + l) (q / r) := by
  have nz : r.num ≠ 0 := fun z => hr (Rat.num_eq_zero.mp z)
  refine rb_of (a := q.num * (r.den : Int)) (b := (q.den : Int) * r.num) (Int.mul_ne_zero (den_ne q) nz) (h.num.mul g.den) (h.den.mul g.num) ?_
  rw [Rat.intCast_mul, Rat.intCast_mul, rat_num q, rat_num r]
  grind
theorem rat_div_nn {q r : Rat} (h : 0 ≤ q) (g : 0 ≤ r) : 0 ≤ q / r := by
  by_cases z : r = 0
  · have : q / r = 0 := by rw [z]; grind
    rw [this]
    exact Rat.le_refl
  · have g2 : 0 < r := by
      rcases Rat.le_iff_lt_or_eq.mp g with g | g
      · exact g
      · exact absurd g.symm z
    refine Rat.le_of_mul_le_mul_right ?_ g2
    have : q / r * r = q := by grind
    rw [this, Rat.zero_mul]
    exact h
/-- data that is the same as itself -/
structure Sm (k : Nat) (d : PyData) : Prop where
  can : d.canLay0 = true
  dep : d.depth ≤ k
  eq : PyData.eqv d d = true
theorem Sm.mono {k l : Nat} {d : PyData} (h : Sm k d) (e : k ≤ l) : Sm l d := ⟨h.can, Nat.le_trans h.dep e, h.eq⟩
theorem sm_r (q : Rat) : Sm 1 (rD q) := ⟨rfl, Nat.le_refl 1, eqv_rD q⟩
theorem sma {k : Nat} : ∀ {ds : List PyData}, (∀ d ∈ ds, Sm k d) → PyData.canLayAll0 ds = true ∧ PyData.depthAll ds ≤ k ∧ PyData.eqvAll ds ds = true
  | [], _ => ⟨rfl, Nat.zero_le _, rfl⟩
  | d :: r, h => by
    obtain ⟨a, b, c⟩ := sma (ds := r) fun x hx => h x (by simp [hx])
    have g := h d (by simp)
    refine ⟨?_, ?_, ?_⟩
    · show (PyData.canLay0 d && PyData.canLayAll0 r) = true
      rw [g.can, a]
      rfl
    · show max (PyData.depth d) (PyData.depthAll r) ≤ k
      have := g.dep
      omega
    · show (PyData.eqv d d && PyData.eqvAll r r) = true
      rw [g.eq, c]
      rfl
theorem sm_tup {k : Nat} {ds : List PyData} (h : ∀ d ∈ ds, Sm k d) : Sm (k + 1) (.tuple ds) := by
  obtain ⟨a, b, c⟩ := sma h
  refine ⟨a, ?_, by rw [PyData.eqv]; exact c⟩
  show PyData.depthAll ds + 1 ≤ k + 1
  omega
theorem sm_lst {k : Nat} {ds : List PyData} (h : ∀ d ∈ ds, Sm k d) : Sm (k + 1) (.list ds) := by
  obtain ⟨a, b, c⟩ := sma h
  refine ⟨a, ?_, by rw [PyData.eqv]; exact c⟩
  show PyData.depthAll ds + 1 ≤ k + 1
  omega
theorem Sm.sh {k : Nat} {d : PyData} (h : Sm k d) (hk : k ≤ 64) : SeqAt.shaped d = true := by
  show (d.canLay0 && decide (d.depth ≤ 64)) = true
  rw [h.can, decide_eq_true (Nat.le_trans h.dep hk)]
  rfl
theorem w_neS {k : Nat} {d : PyData} {P : D → Prop} (h : Sm k d) (hk : k ≤ 64) (q : P (.py (.bool false))) : oNeD (.py d) (.py d) P := ⟨_, _, rfl, rfl, h.sh hk, h.sh hk, by rw [h.eq]; exact q⟩
theorem w_eqS {k : Nat} {d : PyData} {P : D → Prop} (h : Sm k d) (hk : k ≤ 64) (q : P (.py (.bool true))) : oEqD (.py d) (.py d) P := ⟨_, _, rfl, rfl, h.sh hk, h.sh hk, by rw [h.eq]; exact q⟩
theorem eqv_rr (a b : Rat) : PyData.eqv (rD a) (rD b) = decide (a = b) := by
  by_cases e : a = b
  · rw [e, eqv_rD, decide_eq_true rfl]
  · rw [decide_eq_false e]
    show (a.num == b.num && ((a.den : Int) == (b.den : Int) && true)) = false
    rw [Bool.and_true, Bool.and_eq_false_iff]
    by_cases q : a.num = b.num
    · right
      rw [beq_eq_false_iff_ne]
      intro z
      exact e (Rat.ext q (by omega))
    · left
      rw [beq_eq_false_iff_ne]
      exact q
theorem w_eqR {a b : Rat} {P : D → Prop} (q : P (.py (.bool (decide (a = b))))) : oEqD (.py (rD a)) (.py (rD b)) P := ⟨_, _, rfl, rfl, (sm_r a).sh (by decide), (sm_r b).sh (by decide), by rw [eqv_rr]; exact q⟩
theorem w_neR {a b : Rat} {P : D → Prop} (q : P (.py (.bool (!decide (a = b))))) : oNeD (.py (rD a)) (.py (rD b)) P := ⟨_, _, rfl, rfl, (sm_r a).sh (by decide), (sm_r b).sh (by decide), by rw [eqv_rr]; exact q⟩
theorem sm_tq (n L : Nat) (q : Nat → Nat → Rat) : Sm 3 (tqD n L q) := by
  unfold tqD
  refine sm_tup fun d hd => ?_
  obtain ⟨i, _, rfl⟩ := List.mem_map.mp hd
  refine sm_tup fun e he => ?_
  obtain ⟨u, _, rfl⟩ := List.mem_map.mp he
  exact sm_r _
/-- a product from ahead -/
def prQ (l : List Rat) : Rat := l.foldl (· * ·) 1
theorem prQ_snoc (l : List Rat) (q : Rat) : prQ (l ++ [q]) = prQ l * q := by
  unfold prQ
  rw [List.foldl_append]
  rfl
theorem sumQ_nn {n : Nat} {f : Nat → Rat} (h : ∀ u, u < n → 0 ≤ f u) : 0 ≤ sumQ n f := by
  induction n with
  | zero => rw [sumQ_zero]; exact Rat.le_refl
  | succ n ih =>
    rw [sumQ_succ]
    exact Rat.add_nonneg (ih fun u hu => h u (by omega)) (h n (by omega))
theorem sumQ_z {f : Nat → Rat} : ∀ {n : Nat}, sumQ n f = 0 → (∀ u, u < n → 0 ≤ f u) → ∀ u, u < n → f u = 0
  | 0, _, _ => fun u hu => by omega
  | n + 1, h, nn => fun u hu => by
    rw [sumQ_succ] at h
    have h1 := sumQ_nn (n := n) (f := f) fun u hu => nn u (by omega)
    have h2 := nn n (by omega)
    have e2 : f n = 0 := by grind
    have e1 : sumQ n f = 0 := by grind
    by_cases q : u = n
    · rw [q]; exact e2
    · exact sumQ_z e1 (fun u hu => nn u (by omega)) u (by omega)
section
variable {B n k : Nat} {c : Ch}
theorem aQ_nn (hw : Lw B n k c) {os : List (Option Nat)} (ho : Okv k os) {i u : Nat} (hi : i < os.length) (hu : u < n) : 0 ≤ aQ c n os i u := by
  have er := rev_take' (os := os) hi
  have ok2 : Okv k (os[i] :: (os.take i).reverse) := by rw [← er]; exact (ho.take _).rev
  unfold aQ
  rw [er]
  exact rat_nn (paL_nb hw _ _ u hu ok2).1 (lbC_pos hw _) (paL_q hw _ _ u hu ok2)
theorem bQ_nn (hw : Lw B n k c) {os : List (Option Nat)} (ho : Okv k os) {i u : Nat} (hu : u < n) : 0 ≤ bQ c n os i u :=
  rat_nn (wyW_nb hw (os.drop (i + 1)) u hu (ho.drop _)).1 (lbW_pos hw _) (wyW_q hw (os.drop (i + 1)) u hu (ho.drop _))
def lwWh (c : Ch) (n : Nat) (os : List (Option Nat)) : Int := if os = [] then 1 else sumN n (paL c n os.reverse)
theorem lwWh_q (hw : Lw B n k c) {os : List (Option Nat)} (ho : Okv k os) : 0 ≤ lwWh c n os ∧ Bd ((2 * B + 3) * os.length + 3 + 1) (lwWh c n os) ∧ (lwWh c n os : Rat) = chQ c n os * (lbC c os.length : Rat) := by
  unfold lwWh
  by_cases e : os = []
  · rw [if_pos e, e, chQ_nil hw.ok]
    refine ⟨by decide, one_bd (by omega), ?_⟩
    show ((1 : Int) : Rat) = 1 * ((1 : Int) : Rat)
    grind
  · rw [if_neg e]
    obtain ⟨o, r, er⟩ : ∃ o r, os.reverse = o :: r := by
      cases q : os.reverse with
      | nil => exact absurd (List.reverse_eq_nil_iff.mp q) e
      | cons o r => exact ⟨o, r, rfl⟩
    have el : os.length = r.length + 1 := by rw [← List.length_reverse, er, List.length_cons]
    have ok2 : Okv k (o :: r) := by rw [← er]; exact ho.rev
    rw [er, el]
    refine ⟨sumN_nn fun u hu => (paL_nb hw r o u hu ok2).1, (sumN_bd (by have := hw.ok.n6; omega) fun u hu => (paL_nb hw r o u hu ok2).2).mono (by omega), ?_⟩
    rw [cast_sumN]
    unfold chQ
    rw [er, ← sumQ_mulR]
    exact sumQ_congr fun u hu => paL_q hw r o u hu ok2
theorem chQ_nn (hw : Lw B n k c) {os : List (Option Nat)} (ho : Okv k os) : 0 ≤ chQ c n os := rat_nn (lwWh_q hw ho).1 (lbC_pos hw _) (lwWh_q hw ho).2.2
theorem lw_b1 (hw : Lw B n k c) : 1 ≤ B := by
  have p := hw.p1
  have b := hw.b1
  rcases Nat.eq_zero_or_pos B with z | z
  · subst z
    have : (lcmF 1 c.sp).natAbs < 2 ^ 0 := b
    omega
  · exact z
theorem chQ_rb (hw : Lw B n k c) {os : List (Option Nat)} (ho : Okv k os) : Rb ((2 * B + 3) * os.length + 4) (chQ c n os) := by
  obtain ⟨_, h2, h3⟩ := lwWh_q hw ho
  have p := lbC_pos hw os.length
  have B1 := lw_b1 hw
  have l2 : 2 * B * os.length ≤ (2 * B + 3) * os.length := Nat.mul_le_mul (by omega) (Nat.le_refl _)
  exact rb_of (by omega) h2 ((lbC_bd hw os.length).mono (by omega)) h3
/-- what cannot be shown at first cannot be shown at all -/
theorem chQ_cut (hw : Lw B n k c) {os : List (Option Nat)} (ho : Okv k os) {m : Nat} (hm : m ≤ os.length) (h : chQ c n (os.take m) = 0) : chQ c n os = 0 := by
  cases m with
  | zero =>
    rw [List.take_zero, chQ_nil hw.ok] at h
    exact absurd h (by decide)
  | succ i =>
    rw [← ab_sum (show i < os.length by omega)]
    have z : ∀ u, u < n → aQ c n os i u = 0 := by
      have h : sumQ n (aQ c n os i) = 0 := h
      have nn : ∀ u, u < n → 0 ≤ aQ c n os i u := fun u hu => aQ_nn hw ho (by omega) hu
      exact sumQ_z h nn
    have : sumQ n (fun u => aQ c n os i u * bQ c n os i u) = sumQ n fun _ => (0 : Rat) * 0 := sumQ_congr fun u hu => by rw [z u hu]; grind
    rw [this, sumQ_mulR]
    grind
theorem sQ_nn (hw : Lw B n k c) {os : List (Option Nat)} (ho : Okv k os) {i u : Nat} (hi : i < os.length) (hu : u < n) : 0 ≤ sQ c n os i u := rat_div_nn (Rat.mul_nonneg (aQ_nn hw ho hi hu) (bQ_nn hw ho hu)) (chQ_nn hw ho)
theorem qP_nn (hw : Lw B n k c) {s u : Nat} (hs : s < n) (hu : u < n) : 0 ≤ qP c s u := rat_nn (hw.pn hs hu).1 hw.p1 (hw.p hs hu)
theorem qT_nn (hw : Lw B n k c) {u : Nat} (hu : u < n) {o : Option Nat} (ho : ∀ j, o = some j → j < k) : 0 ≤ qT c u o := rat_nn (hw.tn hu ho).1 hw.p2 (hw.t hu ho)
theorem qP_rb (hw : Lw B n k c) {s u : Nat} (hs : s < n) (hu : u < n) : Rb B (qP c s u) := rb_of (by have := hw.p1; omega) (hw.pn hs hu).2 hw.b1 (hw.p hs hu)
theorem qT_rb (hw : Lw B n k c) {u : Nat} (hu : u < n) {o : Option Nat} (ho : ∀ j, o = some j → j < k) : Rb B (qT c u o) := rb_of (by have := hw.p2; omega) (hw.tn hu ho).2 hw.b2 (hw.t hu ho)
theorem Okv.at {os : List (Option Nat)} (h : Okv k os) (i : Nat) : ∀ j, os.getD i none = some j → j < k := fun j e => by
  by_cases hi : i < os.length
  · exact h _ (getD_mem hi) j e
  · rw [List.getD_eq_getElem?_getD, List.getElem?_eq_none_iff.mpr (by omega)] at e
    cases e
theorem pQ_nn (hw : Lw B n k c) {os : List (Option Nat)} (ho : Okv k os) {i s u : Nat} (hi : i < os.length) (hs : s < n) (hu : u < n) : 0 ≤ pQ c n os i s u :=
  rat_div_nn (Rat.mul_nonneg (aQ_nn hw ho hi hs) (Rat.mul_nonneg (qP_nn hw hs hu) (Rat.mul_nonneg (qT_nn hw hu (ho.at (i + 1))) (bQ_nn hw ho hu)))) (chQ_nn hw ho)
/-- the figures of what is told -/
def kQ (B L : Nat) : Nat := (2 * B + 3) * L + B + 4
theorem ab_rbK (hw : Lw B n k c) {os : List (Option Nat)} (ho : Okv k os) {i u : Nat} (hi : i < os.length) (hu : u < n) : Rb (kQ B os.length) (aQ c n os i u) ∧ Rb (kQ B os.length) (bQ c n os i u) := by
  have B1 := lw_b1 hw
  refine ⟨?_, ?_⟩
  · have er := rev_take' (os := os) hi
    have ok2 : Okv k (os[i] :: (os.take i).reverse) := by rw [← er]; exact (ho.take _).rev
    have q := paL_q hw (os.take i).reverse os[i] u hu ok2
    have nb := (paL_nb hw (os.take i).reverse os[i] u hu ok2).2
    have lt : (os.take i).reverse.length = i := by rw [List.length_reverse, List.length_take]; omega
    rw [lt] at q nb
    rw [← er] at q
    have p := lbC_pos hw (i + 1)
    have bb := lbC_bd hw (i + 1)
    have l1 : (2 * B + 3) * (i + 1) ≤ (2 * B + 3) * os.length := Nat.mul_le_mul_left _ (by omega)
    have l2 : 2 * B * (i + 1) ≤ (2 * B + 3) * os.length := Nat.mul_le_mul (by omega) (by omega)
    unfold kQ
    exact rb_of (by omega) ((by rw [er]; exact nb : Bd _ (paL c n (os.take (i + 1)).reverse u)).mono (by omega)) (bb.mono (by omega)) q
  · have q := wyW_q hw (os.drop (i + 1)) u hu (ho.drop _)
    have nb := (wyW_nb hw (os.drop (i + 1)) u hu (ho.drop _)).2
    have p := lbW_pos hw (os.drop (i + 1)).length
    have bb := lbW_bd hw (os.drop (i + 1)).length
    have ld : (os.drop (i + 1)).length ≤ os.length := by rw [List.length_drop]; omega
    have l1 : (2 * B + 3) * (os.drop (i + 1)).length ≤ (2 * B + 3) * os.length := Nat.mul_le_mul_left _ ld
    have l2 : 2 * B * (os.drop (i + 1)).length ≤ (2 * B + 3) * os.length := Nat.mul_le_mul (by omega) ld
    unfold kQ
    exact rb_of (by omega) (nb.mono (by omega)) (bb.mono (by omega)) q
theorem chQ_rbK (hw : Lw B n k c) {os : List (Option Nat)} (ho : Okv k os) : Rb (kQ B os.length) (chQ c n os) := (chQ_rb hw ho).mono (by unfold kQ; omega)
theorem sQ_rb (hw : Lw B n k c) {os : List (Option Nat)} (ho : Okv k os) (h0 : chQ c n os ≠ 0) {i u : Nat} (hi : i < os.length) (hu : u < n) : Rb (3 * kQ B os.length) (sQ c n os i u) := by
  obtain ⟨h1, h2⟩ := ab_rbK hw ho hi hu
  exact ((h1.mul h2).div (chQ_rbK hw ho) h0).mono (by omega)
theorem pQ_rb (hw : Lw B n k c) {os : List (Option Nat)} (ho : Okv k os) (h0 : chQ c n os ≠ 0) {i s u : Nat} (hi : i + 1 < os.length) (hs : s < n) (hu : u < n) : Rb (3 * kQ B os.length + 2 * B) (pQ c n os i s u) := by
  obtain ⟨h1, _⟩ := ab_rbK hw ho (show i < os.length by omega) hs
  obtain ⟨_, h2⟩ := ab_rbK hw ho hi hu
  exact ((h1.mul ((qP_rb hw hs hu).mul ((qT_rb hw hu (ho.at (i + 1))).mul h2))).div (chQ_rbK hw ho) h0).mono (by omega)
theorem nQ_nn (hw : Lw B n k c) {os : List (Option Nat)} (ho : Okv k os) {j : Nat} (hj : j < k) : 0 ≤ nQ c n os j :=
  rat_div_nn (chQ_nn hw fun o h => by
    rcases List.mem_append.mp h with h | h
    · exact ho o h
    · rw [List.mem_singleton.mp h]
      intro i e
      cases e
      exact hj) (chQ_nn hw ho)
theorem nQ_rb (hw : Lw B n k c) {os : List (Option Nat)} (ho : Okv k os) (h0 : chQ c n os ≠ 0) {j : Nat} (hj : j < k) : Rb (2 * kQ B (os.length + 1)) (nQ c n os j) := by
  have h1 := chQ_rbK hw (os := os ++ [some j]) fun o h => by
    rcases List.mem_append.mp h with h | h
    · exact ho o h
    · rw [List.mem_singleton.mp h]
      intro i e
      cases e
      exact hj
  rw [List.length_append] at h1
  have m : kQ B os.length ≤ kQ B (os.length + 1) := by
    unfold kQ
    have : (2 * B + 3) * os.length ≤ (2 * B + 3) * (os.length + 1) := Nat.mul_le_mul_left _ (by omega)
    omega
  exact (h1.div (chQ_rbK hw ho) h0).mono (by show kQ B (os.length + 1) + kQ B os.length ≤ _; omega)
end
theorem lcmM {b r n B M : Nat} {ls : List (List Int)} (h : Mtx b r n ls) (hm : ∀ l ∈ ls, ∀ x ∈ l, x ≤ (M : Int)) (n1 : 1 ≤ M * n) (e : (M * n) ^ r < 2 ^ B) : lcmF 1 ls < 2 ^ B := by
  have q := lcmF_le (M := M * n) n1 ls 1 (fun l hl => by
    have L := h.lin l hl
    refine ⟨L.sum, ?_⟩
    have := sum_max (M := (M : Int)) (ns := l) (hm l hl)
    rw [L.len] at this
    rw [Int.natCast_mul, Int.mul_comm]
    exact this) (by decide)
  rw [h.len] at q
  have e2 : (((M * n : Nat) : Int)) ^ r = (((M * n) ^ r : Nat) : Int) := by rw [Int.natCast_pow]
  rw [e2] at q
  have e3 : ((2 ^ B : Nat) : Int) = (2 : Int) ^ B := by rw [Int.natCast_pow]; rfl
  omega
theorem le15 {r n : Nat} {ls : List (List Int)} (h : Mtx 4 r n ls) : ∀ l ∈ ls, ∀ x ∈ l, x ≤ ((15 : Nat) : Int) := fun l hl x hx => by
  obtain ⟨h0, h1⟩ := (h.lin l hl).bd x hx
  have h1 : x.natAbs < 2 ^ 4 := h1
  omega
theorem small4 {r n : Nat} {ls : List (List Int)} (h : Mtx 4 r n ls) (n6 : n ≤ 6) : Small ls := fun l hl => by
  have L := h.lin l hl
  refine ⟨L.sum, ?_⟩
  have := sum_max (M := ((15 : Nat) : Int)) (le15 h l hl)
  rw [L.len] at this
  omega
/-- weights to 15 -/
theorem lw_of4 {n k B : Nat} {c : Ch} (hc : ChOk 4 n k c) (e1 : (15 * n) ^ n < 2 ^ B) (e2 : (15 * k) ^ n < 2 ^ B) : Lw B n k c := by
  have n1 := hc.n1
  have k1 := hc.k1
  have s1 := small4 hc.sp hc.n6
  have s2 := small4 hc.tl (by have := hc.k5; omega)
  have p1 := (lcmF_props c.sp 1 s1 (by decide)).1
  have p2 := (lcmF_props c.tl 1 s2 (by decide)).1
  have g1 : lcmF 1 c.sp < 2 ^ B := lcmM hc.sp (le15 hc.sp) (by omega) e1
  have g2 : lcmF 1 c.tl < 2 ^ B := lcmM hc.tl (le15 hc.tl) (by omega) e2
  have h0 : c.st.sum ≤ c.st.length * 15 := sum_max fun x hx => by have := (hc.st.bd x hx).2; have z : x.natAbs < 2 ^ 4 := this; omega
  rw [hc.st.len] at h0
  have g0 : c.st.sum < 2 ^ B := by
    have q : 15 * n ≤ (15 * n) ^ n := by
      obtain ⟨m, rfl⟩ : ∃ m, n = m + 1 := ⟨n - 1, by omega⟩
      rw [Nat.pow_succ]
      exact Nat.le_mul_of_pos_left _ (Nat.pow_pos (by omega))
    have e3 : ((2 ^ B : Nat) : Int) = (2 : Int) ^ B := by rw [Int.natCast_pow]; rfl
    omega
  have p0 := hc.st.sum
  exact lw_mk hc (smb_of s1) (smb_of s2) (bd_pos (by omega) g1) (bd_pos (by omega) g2) (bd_pos (by omega) g0) (by decide)
theorem ch_up {b b' n k : Nat} {c : Ch} (hc : ChOk b n k c) (h : b ≤ b') : ChOk b' n k c := ⟨hc.n1, hc.n6, hc.k1, hc.k5, hc.sg, hc.st.mono h, ⟨hc.sp.len, fun l hl => (hc.sp.lin l hl).mono h⟩, ⟨hc.tl.len, fun l hl => (hc.tl.lin l hl).mono h⟩⟩
end VP

/-! VQ18: all courses through a state, through two -/
namespace VP
open PySem PySem.Spec PyProof.Rows L2 VB VZ VC RT
theorem w_tryAs {K : PySem.W.Frag} {C : Value} {i : Nat} {pb : (PEnv → Ex → Prop) → PTS} {psu : SuP} {Pn : PEn} {env : PEnv} (h : pb (tryE K C i psu Pn) Pn env) : pTryAs K C i pb psu Pn env := h
theorem w_slip {K : PySem.W.Frag} {C : Value} {i : Nat} {psu : SuP} {Pn : PEn} {env : PEnv} {cls : Value} (tm : PySem.W.exmOne K cls C = some true) (h : ∀ a, psu a cls none (endW i Pn) (env.set i (excD a))) : tryE K C i psu Pn env ⟨cls, none⟩ := ⟨rfl, tm, h⟩
/-- xs.append(e) where the place's frag is named ahead (in a try) -/
theorem qs_appK {X : Cx} {B : Hp} {m0 : Md} {K' : PySem.W.Frag} {x : Str} {pos pos' apos cpos : Pos} {e : Expr} {te : TE} {pe : PTE} (i : Nat) (hN : X.N[i]? = some x := by rfl) (hv : Vis X.env.scope x := by first | exact .inl rfl | exact .inr (.inl rfl) | exact .inr (.inr rfl) | assumption) (he : QE X B m0 e te pe) (hd : (x == ("__debug__" : Str)) = false := by decide) (hcd : (x == ("__classdict__" : Str)) = false := by decide)
    (hbase : attributeBase (.Name x pos') "append" X.env (eval (.Name x pos') X.env) = eval (.Name x pos') X.env := by rfl)
    (hfew : ((backTo cpos (starEach [e] X.env)).all (fun x => !x.1) && (backToKw cpos (keywordEach [] X.env)).all (fun x => x.1.isSome) && decide ([e].length + ([] : List Keyword).length + (if ([] : List Keyword).isEmpty then 0 else 1) < 30)) = true := by rfl)
    (hline : (apos.endLine == cpos.line) = true := by rfl) (hs : starEach [e] X.env = (false, eval e X.env) :: starEach [] X.env := by rfl) (hplain : (backTo cpos (starEach [] X.env)).any (·.1) = false := by rfl)
    (hsw : swapsWith (.Call (.Attribute (.Name x pos') "append" apos) [e] [] cpos) none pos.line X.env = pure false := by rfl) (hK : X.K = K' := by rfl) :
    QS X B m0 (.Expr (.Call (.Attribute (.Name x pos') "append" apos) [e] [] cpos) pos) (tDrop (tBM K' "list" rAppend (tVar i) (tCons te tNil))) (pApp i pe) := by
  subst hK
  exact qs_app i hN hv he hd hcd hbase hfew hline hs hplain hsw
section
variable (st : Nat → Int) (sp : Nat → Nat → Int) (tl : Nat → Option Nat → Int) (n : Nat)
theorem crs_len : ∀ (m : Nat), ∀ c ∈ courses n m, c.length = m
  | 0, c, h => by rw [List.mem_singleton.mp h]; rfl
  | m + 1, c, h => by
    obtain ⟨d, hd, hc⟩ := List.mem_flatMap.mp h
    obtain ⟨u, _, rfl⟩ := List.mem_map.mp hc
    rw [List.length_append, crs_len m d hd]
    rfl
/-- one more place -/
theorem course_step (o' o : Option Nat) (bs : List (Option Nat)) (G : List Nat → Int) (h : List Nat → Int) :
    ((courses n (bs.length + 2)).map fun c => wholeR st sp tl (o' :: o :: bs) c.reverse * (G (c.reverse.drop 1) * h c.reverse)).sum =
    ((courses n (bs.length + 1)).map fun c => wholeR st sp tl (o :: bs) c.reverse * (G c.reverse * sumN n fun u => sp (c.reverse.headD 0) u * (tl u o' * h (u :: c.reverse)))).sum := by
  show (((courses n (bs.length + 1)).flatMap fun c => (List.range n).map fun u => c ++ [u]).map _).sum = _
  rw [sum_flat]
  refine congrArg List.sum (List.map_congr_left fun c hc => ?_)
  rw [List.map_map]
  unfold sumN
  rw [← Int.mul_assoc, ← sum_map_mul]
  refine congrArg List.sum (List.map_congr_left fun u _ => ?_)
  show wholeR st sp tl (o' :: o :: bs) (c ++ [u]).reverse * (G ((c ++ [u]).reverse.drop 1) * h (c ++ [u]).reverse) = _
  rw [List.reverse_append]
  show wholeR st sp tl (o' :: o :: bs) (u :: c.reverse) * (G c.reverse * h (u :: c.reverse)) = _
  have cl : c.reverse.length = bs.length + 1 := by rw [List.length_reverse]; exact crs_len n _ c hc
  cases e : c.reverse with
  | nil => rw [e] at cl; simp at cl
  | cons s r =>
    show wholeR st sp tl (o :: bs) (s :: r) * (sp s u * tl u o') * (G (s :: r) * h (u :: s :: r)) = wholeR st sp tl (o :: bs) (s :: r) * G (s :: r) * (sp s u * (tl u o' * h (u :: s :: r)))
    generalize wholeR st sp tl (o :: bs) (s :: r) = a
    generalize G (s :: r) = b
    generalize h (u :: s :: r) = d
    generalize sp s u = p
    generalize tl u o' = q
    grind
/-- all ways behind, read from their end -/
def wh : List (Option Nat) → (Nat → Int) → Nat → Int
  | [], h => h
  | o' :: w, h => wh w fun s => sumN n fun u => sp s u * (tl u o' * h u)
theorem wh_snoc : ∀ (w : List (Option Nat)) (o : Option Nat) (h : Nat → Int) (s : Nat), wh sp tl n (w ++ [o]) h s = sumN n fun u => sp s u * (tl u o * wh sp tl n w h u)
  | [], _, _, _ => rfl
  | o' :: w, o, h, s => wh_snoc w o _ s
theorem wh_ways : ∀ (v : List (Option Nat)) (s : Nat), wh sp tl n v.reverse (fun _ => 1) s = waysR sp tl n v s
  | [], _ => rfl
  | o :: v, s => by
    rw [List.reverse_cons, wh_snoc]
    show _ = sumN n fun u => sp s u * (tl u o * waysR sp tl n v u)
    unfold sumN
    exact congrArg List.sum (List.map_congr_left fun u _ => by rw [wh_ways v u])
theorem course_thru (o : Option Nat) (bs : List (Option Nat)) (G : List Nat → Int) : ∀ (w : List (Option Nat)) (h : Nat → Int),
    ((courses n (w.length + bs.length + 1)).map fun c => wholeR st sp tl (w ++ o :: bs) c.reverse * (G (c.reverse.drop w.length) * h (c.reverse.headD 0))).sum =
    ((courses n (bs.length + 1)).map fun c => wholeR st sp tl (o :: bs) c.reverse * (G c.reverse * wh sp tl n w h (c.reverse.headD 0))).sum
  | [], h => by
    rw [show ([] : List (Option Nat)).length + bs.length + 1 = bs.length + 1 by simp]
    rfl
  | o' :: w, h => by
    rw [show wh sp tl n (o' :: w) h = wh sp tl n w fun s => sumN n fun u => sp s u * (tl u o' * h u) from rfl, ← course_thru o bs G w]
    obtain ⟨x, xs, e⟩ : ∃ x xs, w ++ o :: bs = x :: xs := by
      cases w with
      | nil => exact ⟨o, bs, rfl⟩
      | cons a r => exact ⟨a, r ++ o :: bs, rfl⟩
    have el : xs.length = w.length + bs.length := by
      have := congrArg List.length e
      simp at this
      omega
    have st := course_step st sp tl n o' x xs (fun r => G (r.drop w.length)) fun r => h (r.headD 0)
    rw [el] at st
    rw [List.cons_append, e]
    rw [show (o' :: w).length + bs.length + 1 = w.length + bs.length + 2 by rw [List.length_cons]; omega]
    refine Eq.trans ?_ st
    refine congrArg List.sum (List.map_congr_left fun c _ => ?_)
    rw [List.drop_drop, List.length_cons, Nat.add_comm 1 w.length]
/-- all courses that stand somewhere at a place -/
theorem courses_at (o : Option Nat) (bs w : List (Option Nat)) (g : Nat → Int) :
    ((courses n (w.length + bs.length + 1)).map fun c => wholeR st sp tl (w ++ o :: bs) c.reverse * g ((c.reverse.drop w.length).headD 0)).sum = sumN n fun s => partsR st sp tl n (o :: bs) s * (g s * waysR sp tl n w.reverse s) := by
  have h := course_thru st sp tl n o bs (fun r => g (r.headD 0)) w fun _ => 1
  have e1 : ((courses n (w.length + bs.length + 1)).map fun c => wholeR st sp tl (w ++ o :: bs) c.reverse * g ((c.reverse.drop w.length).headD 0)).sum = ((courses n (w.length + bs.length + 1)).map fun c => wholeR st sp tl (w ++ o :: bs) c.reverse * (g ((c.reverse.drop w.length).headD 0) * 1)).sum :=
    congrArg List.sum (List.map_congr_left fun c _ => by rw [Int.mul_one])
  rw [e1, h]
  refine (sum_courses st sp tl n bs o fun s => g s * wh sp tl n w (fun _ => 1) s).trans ?_
  unfold sumN
  refine congrArg List.sum (List.map_congr_left fun s _ => ?_)
  rw [← wh_ways, List.reverse_reverse]
/-- all courses that stand somewhere at two places -/
theorem courses_two (o' o : Option Nat) (bs w : List (Option Nat)) (g : Nat → Nat → Int) :
    ((courses n (w.length + bs.length + 2)).map fun c => wholeR st sp tl (w ++ o' :: o :: bs) c.reverse * g ((c.reverse.drop (w.length + 1)).headD 0) ((c.reverse.drop w.length).headD 0)).sum =
    sumN n fun s => partsR st sp tl n (o :: bs) s * sumN n fun u => sp s u * (tl u o' * (g s u * waysR sp tl n w.reverse u)) := by
  have h := course_thru st sp tl n o' (o :: bs) (fun r => g ((r.drop 1).headD 0) (r.headD 0)) w fun _ => 1
  rw [List.length_cons, show w.length + (bs.length + 1) + 1 = w.length + bs.length + 2 by omega] at h
  have e1 : ((courses n (w.length + bs.length + 2)).map fun c => wholeR st sp tl (w ++ o' :: o :: bs) c.reverse * g ((c.reverse.drop (w.length + 1)).headD 0) ((c.reverse.drop w.length).headD 0)).sum =
      ((courses n (w.length + bs.length + 2)).map fun c => wholeR st sp tl (w ++ o' :: o :: bs) c.reverse * (g (((c.reverse.drop w.length).drop 1).headD 0) ((c.reverse.drop w.length).headD 0) * 1)).sum :=
    congrArg List.sum (List.map_congr_left fun c _ => by rw [Int.mul_one, List.drop_drop])
  rw [e1, h]
  have h2 := course_step st sp tl n o' o bs (fun _ => 1) fun r => g ((r.drop 1).headD 0) (r.headD 0) * wh sp tl n w (fun _ => 1) (r.headD 0)
  have e2 : ((courses n (bs.length + 1 + 1)).map fun c => wholeR st sp tl (o' :: o :: bs) c.reverse * (g ((c.reverse.drop 1).headD 0) (c.reverse.headD 0) * wh sp tl n w (fun _ => 1) (c.reverse.headD 0))).sum =
      ((courses n (bs.length + 2)).map fun c => wholeR st sp tl (o' :: o :: bs) c.reverse * (1 * (g ((c.reverse.drop 1).headD 0) (c.reverse.headD 0) * wh sp tl n w (fun _ => 1) (c.reverse.headD 0)))).sum :=
    congrArg List.sum (List.map_congr_left fun c _ => by rw [Int.one_mul])
  rw [e2, h2]
  have e3 : ((courses n (bs.length + 1)).map fun c => wholeR st sp tl (o :: bs) c.reverse * (1 * sumN n fun u => sp (c.reverse.headD 0) u * (tl u o' * (g (((u :: c.reverse).drop 1).headD 0) ((u :: c.reverse).headD 0) * wh sp tl n w (fun _ => 1) ((u :: c.reverse).headD 0))))).sum =
      ((courses n (bs.length + 1)).map fun c => wholeR st sp tl (o :: bs) c.reverse * (fun s => sumN n fun u => sp s u * (tl u o' * (g s u * wh sp tl n w (fun _ => 1) u))) (c.reverse.headD 0)).sum :=
    congrArg List.sum (List.map_congr_left fun c _ => by rw [Int.one_mul]; rfl)
  refine e3.trans ((sum_courses st sp tl n bs o fun s => sumN n fun u => sp s u * (tl u o' * (g s u * wh sp tl n w (fun _ => 1) u))).trans ?_)
  unfold sumN
  refine congrArg List.sum (List.map_congr_left fun s _ => ?_)
  congr 2
  refine List.map_congr_left fun u _ => ?_
  rw [← wh_ways, List.reverse_reverse]
end
theorem rev_split {os : List (Option Nat)} {i : Nat} (hi : i < os.length) : os.reverse = (os.drop (i + 1)).reverse ++ os[i] :: (os.take i).reverse := by
  rw [← rev_take' hi, ← List.reverse_append, List.take_append_drop]
theorem rev_drop {us : List Nat} {L i : Nat} (hl : us.length = L) (hi : i < L) : (us.reverse.drop (L - (i + 1))).headD 0 = us.getD i 0 := by
  rw [List.drop_reverse, hl, show L - (L - (i + 1)) = i + 1 by omega]
  have hi' : i < us.length := by omega
  rw [List.take_add_one, List.getElem?_eq_getElem hi', List.reverse_append, List.getD_eq_getElem?_getD, List.getElem?_eq_getElem hi']
  rfl
theorem sumN_pick {n u : Nat} (hu : u < n) (f : Nat → Int) (g : Nat → Int) : (sumN n fun s => f s * ((if s = u then 1 else 0) * g s)) = f u * g u := by
  have key : ∀ m, (sumN m fun s => f s * ((if s = u then 1 else 0) * g s)) = if u < m then f u * g u else 0 := by
    intro m
    induction m with
    | zero => rfl
    | succ m ih =>
      unfold sumN at ih ⊢
      rw [List.range_succ, List.map_append, List.sum_append, ih]
      simp only [List.map_cons, List.map_nil, List.sum_cons, List.sum_nil]
      by_cases e : m = u
      · subst e
        rw [if_neg (by omega), if_pos rfl, if_pos (by omega), Int.one_mul]
        omega
      · rw [if_neg e, Int.zero_mul, Int.mul_zero]
        by_cases e2 : u < m
        · rw [if_pos e2, if_pos (by omega)]
          omega
        · rw [if_neg e2, if_neg (by omega)]
          omega
  rw [key n, if_pos hu]
/-- the courses that stand at a place in a state -/
theorem lw_at (c : Ch) {n i u : Nat} {os : List (Option Nat)} (hi : i < os.length) (hu : u < n) :
    ((courses n os.length).map fun us => if us.getD i 0 = u then lwW c os us else 0).sum = paL c n (os.take (i + 1)).reverse u * wyW c n (os.drop (i + 1)) u := by
  have h := courses_at (lS c) (lP c) (ltW c) n os[i] (os.take i).reverse (os.drop (i + 1)).reverse fun s => if s = u then 1 else 0
  rw [← rev_split hi] at h
  have l1 : (os.drop (i + 1)).reverse.length = os.length - (i + 1) := by rw [List.length_reverse, List.length_drop]
  have l2 : (os.take i).reverse.length = i := by rw [List.length_reverse, List.length_take]; omega
  rw [l1, l2, show os.length - (i + 1) + i + 1 = os.length by omega, List.reverse_reverse, ← rev_take' hi, sumN_pick hu] at h
  refine Eq.trans ?_ h
  refine congrArg List.sum (List.map_congr_left fun us hus => ?_)
  rw [rev_drop (crs_len n _ us hus) hi]
  by_cases e : us.getD i 0 = u
  · rw [if_pos e, if_pos e, Int.mul_one]
    rfl
  · rw [if_neg e, if_neg e, Int.mul_zero]
/-- the courses that stand at two places in two states -/
theorem lw_two (c : Ch) {n i s u : Nat} {os : List (Option Nat)} (hi : i + 1 < os.length) (hs : s < n) (hu : u < n) :
    ((courses n os.length).map fun us => if us.getD i 0 = s ∧ us.getD (i + 1) 0 = u then lwW c os us else 0).sum = paL c n (os.take (i + 1)).reverse s * (lP c s u * (ltW c u (os.getD (i + 1) none) * wyW c n (os.drop (i + 2)) u)) := by
  have h := courses_two (lS c) (lP c) (ltW c) n os[i + 1] os[i] (os.take i).reverse (os.drop (i + 1 + 1)).reverse fun a b => if a = s then (if b = u then 1 else 0) else 0
  rw [← rev_take' (show i < os.length by omega), ← rev_split hi] at h
  have l1 : (os.drop (i + 1 + 1)).reverse.length = os.length - (i + 1 + 1) := by rw [List.length_reverse, List.length_drop]
  have l2 : (os.take i).reverse.length = i := by rw [List.length_reverse, List.length_take]; omega
  rw [l1, l2, show os.length - (i + 1 + 1) + i + 2 = os.length by omega, List.reverse_reverse] at h
  have e2 : (sumN n fun a => partsR (lS c) (lP c) (ltW c) n (os.take (i + 1)).reverse a * sumN n fun b => lP c a b * (ltW c b os[i + 1] * ((if a = s then (if b = u then 1 else 0) else 0) * waysR (lP c) (ltW c) n (os.drop (i + 1 + 1)) b))) =
      sumN n fun a => partsR (lS c) (lP c) (ltW c) n (os.take (i + 1)).reverse a * ((if a = s then 1 else 0) * sumN n fun b => (lP c a b * ltW c b os[i + 1]) * ((if b = u then 1 else 0) * waysR (lP c) (ltW c) n (os.drop (i + 1 + 1)) b)) := by
    unfold sumN
    refine congrArg List.sum (List.map_congr_left fun a _ => ?_)
    congr 1
    by_cases e : a = s
    · rw [if_pos e, Int.one_mul]
      refine congrArg List.sum (List.map_congr_left fun b _ => ?_)
      rw [if_pos e, Int.mul_assoc]
    · rw [if_neg e, Int.zero_mul]
      have : (fun b => lP c a b * (ltW c b os[i + 1] * ((if a = s then (if b = u then 1 else 0) else 0) * waysR (lP c) (ltW c) n (os.drop (i + 1 + 1)) b))) = fun _ : Nat => (0 : Int) := by
        funext b
        rw [if_neg e, Int.zero_mul, Int.mul_zero, Int.mul_zero]
      rw [this]
      generalize List.range n = l
      induction l with
      | nil => rfl
      | cons a t ih => rw [List.map_cons, List.sum_cons, ih]; rfl
  rw [e2, sumN_pick hs, sumN_pick hu] at h
  have e3 : os.getD (i + 1) none = os[i + 1] := getD_at hi
  rw [e3]
  refine Eq.trans ?_ (h.trans ?_)
  · refine congrArg List.sum (List.map_congr_left fun us hus => ?_)
    have r1 := rev_drop (crs_len n _ us hus) (show i < os.length by omega)
    have r2 := rev_drop (crs_len n _ us hus) hi
    rw [show os.length - (i + 1 + 1) + 1 = os.length - (i + 1) by omega, r1, r2]
    by_cases e : us.getD i 0 = s
    · by_cases f : us.getD (i + 1) 0 = u
      · rw [if_pos ⟨e, f⟩, if_pos e, if_pos f, Int.mul_one]
        rfl
      · rw [if_neg (fun q => f q.2), if_pos e, if_neg f, Int.mul_zero]
    · rw [if_neg (fun q => e q.1), if_neg e, Int.mul_zero]
  · show paL c n (os.take (i + 1)).reverse s * (lP c s u * ltW c u os[i + 1] * wyW c n (os.drop (i + 2)) u) = _
    rw [Int.mul_assoc (lP c s u)]
end VP

/-! VQ19: lists of numbers that a def changes, each under a key -/
namespace VP
open PySem PySem.Spec PyProof.Rows L2 VB VZ VC RT
abbrev Kf := Nat × Nat
/-- some lists of n numbers, their keys, what stands in them; and things that stay -/
structure Fam (m : Md) (H H' : Hp) (n : Nat) (fs : List Addr) (key : Addr → Kf) (R : Kf → Nat → Int) (Fx : List (Addr × HO)) : Prop where
  ok0 : Ok m H
  g : Go m H H'
  at_ : ∀ a ∈ fs, H' a = some (.lst (((List.range n).map (R (key a))).map V.int))
  fr : ∀ a ∈ fs, H a = none
  inj : ∀ a ∈ fs, ∀ b ∈ fs, key a = key b → a = b
  fx : ∀ p ∈ Fx, H' p.1 = some p.2 ∧ H p.1 = none ∧ p.1 ∉ fs
section
variable {m : Md} {H H' H2 : Hp} {n u : Nat} {fs : List Addr} {key : Addr → Kf} {R : Kf → Nat → Int} {Fx : List (Addr × HO)} {a p E : Addr} {o : HO} {k : Kf} {w : Int}
theorem Fam.start (ok : Ok m H) (g : Go m H H') (key : Addr → Kf) (R : Kf → Nat → Int) : Fam m H H' n [] key R [] := ⟨ok, g, by simp, by simp, by simp, by simp⟩
theorem Fam.go (h : Fam m H H' n fs key R Fx) (g : Go m H' H2) : Fam m H H2 n fs key R Fx where
  ok0 := h.ok0
  g := h.g.trans g
  at_ := fun a ha => g.at (h.ok0.off (h.fr a ha)) (h.at_ a ha)
  fr := h.fr
  inj := h.inj
  fx := fun p hp => by
    obtain ⟨h1, h2, h3⟩ := h.fx p hp
    exact ⟨g.at (h.ok0.off h2) h1, h2, h3⟩
theorem Fam.not (h : Fam m H H' n fs key R Fx) (hp : H' p = none) : p ∉ fs ∧ (∀ q ∈ Fx, q.1 ≠ p) ∧ H p = none := by
  refine ⟨fun q => ?_, fun q hq e => ?_, h.g.free hp⟩
  · rw [h.at_ p q] at hp
    cases hp
  · rw [← e, (h.fx q hq).1] at hp
    cases hp
def R1 (R : Kf → Nat → Int) (k : Kf) (u : Nat) (w : Int) : Kf → Nat → Int := fun k' u' => if k' = k ∧ u' = u then R k u + w else R k' u'
theorem set_map1 (f : Nat → Int) (u : Nat) (x : Int) : (((List.range n).map f).map V.int).set u (.int x) = ((List.range n).map fun u' => if u' = u then x else f u').map V.int := by
  refine List.ext_getElem (by simp) fun i h1 h2 => ?_
  rw [List.getElem_set, List.getElem_map, List.getElem_map, List.getElem_map, List.getElem_map, List.getElem_range]
  by_cases e : u = i
  · rw [if_pos e, if_pos e.symm]
  · rw [if_neg e, if_neg (fun q => e q.symm)]
/-- one entry more -/
theorem Fam.put (h : Fam m H H' n fs key R Fx) (ha : a ∈ fs) (u : Nat) (w : Int) : Fam m H (upd H' a (.lst ((((List.range n).map (R (key a))).map V.int).set u (.int (R (key a) u + w))))) n fs key (R1 R (key a) u w) Fx where
  ok0 := h.ok0
  g := h.g.mut h.ok0 (h.fr a ha)
  at_ := fun b hb => by
    by_cases e : b = a
    · subst e
      rw [upd_same, set_map1]
      refine congrArg (fun f => some (HO.lst (((List.range n).map f).map V.int))) ?_
      funext u'
      unfold R1
      by_cases q : u' = u
      · rw [if_pos q, if_pos ⟨rfl, q⟩]
      · rw [if_neg q, if_neg (fun z => q z.2)]
    · rw [upd_ne e, h.at_ b hb]
      refine congrArg (fun f => some (HO.lst (((List.range n).map f).map V.int))) ?_
      funext u'
      unfold R1
      rw [if_neg (fun z => e (h.inj b hb a ha z.1))]
  fr := h.fr
  inj := h.inj
  fx := fun q hq => by
    obtain ⟨h1, h2, h3⟩ := h.fx q hq
    exact ⟨by rw [upd_ne (fun e => h3 (by rw [e]; exact ha))]; exact h1, h2, h3⟩
/-- one list more, all noughts -/
theorem Fam.add (h : Fam m H H' n fs key R Fx) (hp : H' p = none) (k : Kf) (hk : ∀ a ∈ fs, key a ≠ k) (h0 : ∀ u, R k u = 0) : Fam m H (upd H' p (.lst ((List.replicate n (0 : Int)).map V.int))) n (fs ++ [p]) (fun b => if b = p then k else key b) R Fx := by
  obtain ⟨n1, n2, n3⟩ := h.not hp
  have ne : ∀ a ∈ fs, a ≠ p := fun a ha e => n1 (by rw [← e]; exact ha)
  refine ⟨h.ok0, h.g.trans (.new h.g.ok hp), fun b hb => ?_, fun b hb => ?_, fun b hb c hc e => ?_, fun q hq => ?_⟩
  · rcases List.mem_append.mp hb with z | z
    · show upd H' p _ b = some (HO.lst (((List.range n).map (R (if b = p then k else key b))).map V.int))
      rw [upd_ne (ne b z), if_neg (ne b z)]
      exact h.at_ b z
    · have z := List.mem_singleton.mp z
      subst z
      show upd H' b _ b = some (HO.lst (((List.range n).map (R (if b = b then k else key b))).map V.int))
      rw [upd_same, if_pos rfl]
      refine congrArg (fun l : List Int => some (HO.lst (l.map V.int))) ?_
      refine List.ext_getElem (by simp) fun i h1 h2 => ?_
      rw [List.getElem_replicate, List.getElem_map, h0]
  · rcases List.mem_append.mp hb with z | z
    · exact h.fr b z
    · rw [List.mem_singleton.mp z]; exact n3
  · have e : (if b = p then k else key b) = (if c = p then k else key c) := e
    rcases List.mem_append.mp hb with z | z <;> rcases List.mem_append.mp hc with y | y
    · rw [if_neg (ne b z), if_neg (ne c y)] at e
      exact h.inj b z c y e
    · rw [if_neg (ne b z), if_pos (List.mem_singleton.mp y)] at e
      exact absurd e (hk b z)
    · rw [if_pos (List.mem_singleton.mp z), if_neg (ne c y)] at e
      exact absurd e.symm (hk c y)
    · rw [List.mem_singleton.mp z, List.mem_singleton.mp y]
  · obtain ⟨h1, h2, h3⟩ := h.fx q hq
    refine ⟨by rw [upd_ne (n2 q hq)]; exact h1, h2, fun z => ?_⟩
    rcases List.mem_append.mp z with z | z
    · exact h3 z
    · exact n2 q hq (List.mem_singleton.mp z)
/-- a list in the making grows -/
theorem Fam.grow (h : Fam m H H' n fs key R Fx) (h0 : H E = none) (hf : E ∉ fs) (hx : ∀ q ∈ Fx, q.1 ≠ E) (o : HO) : Fam m H (upd H' E o) n fs key R Fx where
  ok0 := h.ok0
  g := h.g.mut h.ok0 h0
  at_ := fun a ha => by rw [upd_ne (fun e => hf (by rw [← e]; exact ha))]; exact h.at_ a ha
  fr := h.fr
  inj := h.inj
  fx := fun q hq => by
    obtain ⟨h1, h2, h3⟩ := h.fx q hq
    exact ⟨by rw [upd_ne (hx q hq)]; exact h1, h2, h3⟩
/-- it is made -/
theorem Fam.fix (h : Fam m H H' n fs key R Fx) (h0 : H E = none) (hf : E ∉ fs) (e : H' E = some o) : Fam m H H' n fs key R (Fx ++ [(E, o)]) where
  ok0 := h.ok0
  g := h.g
  at_ := h.at_
  fr := h.fr
  inj := h.inj
  fx := fun q hq => by
    rcases List.mem_append.mp hq with z | z
    · exact h.fx q z
    · rw [List.mem_singleton.mp z]
      exact ⟨e, h0, hf⟩
theorem Fam.fixd (h : Fam m H H' n fs key R Fx) (hq : (E, o) ∈ Fx) : H' E = some o := (h.fx _ hq).1
end
theorem rep_flat9 (n : Nat) (x : Int) : (List.replicate ((n : Int)).toNat [V.int x]).flatten = (List.replicate n x).map V.int := by
  rw [show ((n : Int)).toNat = n from by omega]
  induction n with
  | zero => rfl
  | succ n ih => rw [List.replicate_succ, List.flatten_cons, ih, List.replicate_succ, List.map_cons]; rfl
theorem rep_size9 (n : Nat) (h : n ≤ 1000) (x : V) : [x].length * ((n : Int)).toNat ≤ sizeLine := by
  rw [sizeLine_eq]
  show 1 * _ ≤ _
  omega
/-- over the signs of a row, by the heap -/
theorem r_lcS {σ : L2.St} {H : Hp} {g : TG} {tt : TT} {te : TE} {vs : List Nat} {Q : VK} {z : Str} (Pv : Addr → Nat → Hp → Prop) (h0 : ∀ E, H E = none → Pv E 0 (upd H E (.lst [])))
    (hs : ∀ E i c H', H E = none → z.cps.toList[i]? = some c → Pv E i H' → g (.str (sg1 c)) (wipe σ vs) H' (VB.wK vs σ tt te E (Pv E (i + 1)))) (hd : ∀ E H', H E = none → Pv E z.cps.toList.length H' → Q (.ref E) H') : VB.lcK g tt te vs σ Q (Its z) H := by
  have sz : z.cps.toList.length = z.cps.size := by simp
  refine r_lcG (n := z.cps.toList.length) Pv h0 (fun E i H' hE hi p => ?_) (fun E H' hE p => ?_) (fun E i x H' H2 hE hi p y => ?_) hd
  · show i < z.cps.size
    omega
  · show z.cps.size ≤ _
    omega
  · obtain ⟨e1, c, hc, rfl⟩ := y
    subst e1
    exact hs E i c _ hE (by simpa using hc) p
def Has (fs : List Addr) (key : Addr → Kf) (q : Addr) (k : Kf) : Prop := q ∈ fs ∧ key q = k
theorem Has.add {fs : List Addr} {key : Addr → Kf} {q p : Addr} {k : Kf} (h : Has fs key q k) (hp : p ∉ fs) (k' : Kf) : Has (fs ++ [p]) (fun b => if b = p then k' else key b) q k := by
  refine ⟨List.mem_append_left _ h.1, ?_⟩
  have : q ≠ p := fun e => hp (by rw [← e]; exact h.1)
  show (if q = p then k' else key q) = k
  rw [if_neg this]
  exact h.2
theorem Has.new (fs : List Addr) (key : Addr → Kf) (p : Addr) (k' : Kf) : Has (fs ++ [p]) (fun b => if b = p then k' else key b) p k' := ⟨by simp, by show (if p = p then k' else key p) = k'; rw [if_pos rfl]⟩
/-- rows of a table, by keys -/
structure Rw2 (fs : List Addr) (key : Addr → Kf) (j n : Nat) (l : List Addr) : Prop where
  len : l.length = n
  has : ∀ (s : Nat) (q : Addr), l[s]? = some q → Has fs key q (j, s + 1)
theorem Rw2.add {fs : List Addr} {key : Addr → Kf} {p : Addr} {j n : Nat} {l : List Addr} (h : Rw2 fs key j n l) (hp : p ∉ fs) (k' : Kf) : Rw2 (fs ++ [p]) (fun b => if b = p then k' else key b) j n l := ⟨h.len, fun s q e => (h.has s q e).add hp k'⟩
theorem Rw2.snoc {fs : List Addr} {key : Addr → Kf} {p : Addr} {j n : Nat} {l : List Addr} (h : Rw2 fs key j n l) (hp : p ∉ fs) : Rw2 (fs ++ [p]) (fun b => if b = p then (j, n + 1) else key b) j (n + 1) (l ++ [p]) := ⟨by rw [List.length_append, h.len]; rfl, fun s q e => by
  by_cases c : s < l.length
  · rw [List.getElem?_append_left c] at e
    exact (h.has s q e).add hp _
  · have sl : s - l.length = 0 := by
      have := (List.getElem?_eq_some_iff.mp e).1
      simp at this
      omega
    rw [List.getElem?_append_right (by omega), sl] at e
    cases e
    have : s = n := by have := h.len; omega
    rw [this]
    exact .new _ _ _ _⟩
structure Tb2 (fs : List Addr) (key : Addr → Kf) (Fx : List (Addr × HO)) (n i : Nat) (ts : List Addr) (tss : List (List Addr)) : Prop where
  l1 : ts.length = i
  l2 : tss.length = i
  tb : ∀ (j : Nat) (t : Addr) (l : List Addr), ts[j]? = some t → tss[j]? = some l → (t, HO.lst (l.map V.ref)) ∈ Fx ∧ Rw2 fs key j n l
theorem Tb2.add {fs : List Addr} {key : Addr → Kf} {Fx : List (Addr × HO)} {p : Addr} {n i : Nat} {ts : List Addr} {tss : List (List Addr)} (h : Tb2 fs key Fx n i ts tss) (hp : p ∉ fs) (k' : Kf) : Tb2 (fs ++ [p]) (fun b => if b = p then k' else key b) Fx n i ts tss := ⟨h.l1, h.l2, fun j t l e1 e2 => ⟨(h.tb j t l e1 e2).1, (h.tb j t l e1 e2).2.add hp k'⟩⟩
theorem Tb2.snoc {fs : List Addr} {key : Addr → Kf} {Fx : List (Addr × HO)} {n i : Nat} {ts : List Addr} {tss : List (List Addr)} {E : Addr} {l : List Addr} (h : Tb2 fs key Fx n i ts tss) (hr : Rw2 fs key i n l) : Tb2 fs key (Fx ++ [(E, .lst (l.map V.ref))]) n (i + 1) (ts ++ [E]) (tss ++ [l]) := ⟨by rw [List.length_append, h.l1]; rfl, by rw [List.length_append, h.l2]; rfl, fun j t l' e1 e2 => by
  by_cases c : j < i
  · rw [List.getElem?_append_left (by rw [h.l1]; exact c)] at e1
    rw [List.getElem?_append_left (by rw [h.l2]; exact c)] at e2
    obtain ⟨a, b⟩ := h.tb j t l' e1 e2
    exact ⟨List.mem_append_left _ a, b⟩
  · have h1 := h.l1
    have h2 := h.l2
    have ji : j = i := by
      have := (List.getElem?_eq_some_iff.mp e1).1
      simp at this
      omega
    subst ji
    rw [List.getElem?_append_right (by omega), h1, Nat.sub_self] at e1
    rw [List.getElem?_append_right (by omega), h2, Nat.sub_self] at e2
    cases e1
    cases e2
    exact ⟨by simp, hr⟩⟩
/-- every key but those to come -/
def Kb (fs : List Addr) (key : Addr → Kf) (i s : Nat) : Prop := ∀ a ∈ fs, (key a).2 = 0 ∨ (key a).1 < i ∨ ((key a).1 = i ∧ (key a).2 ≤ s)
theorem Kb.ne {fs : List Addr} {key : Addr → Kf} {i s : Nat} (h : Kb fs key i s) : ∀ a ∈ fs, key a ≠ (i, s + 1) := fun a ha e => by
  have := h a ha
  rw [e] at this
  simp at this
  omega
theorem Kb.add {fs : List Addr} {key : Addr → Kf} {i s : Nat} {p : Addr} (h : Kb fs key i s) (hp : p ∉ fs) : Kb (fs ++ [p]) (fun b => if b = p then (i, s + 1) else key b) i (s + 1) := fun a ha => by
  rcases List.mem_append.mp ha with z | z
  · have ne : a ≠ p := fun e => hp (by rw [← e]; exact z)
    have := h a z
    show (if a = p then (i, s + 1) else key a).2 = 0 ∨ (if a = p then (i, s + 1) else key a).1 < i ∨ ((if a = p then (i, s + 1) else key a).1 = i ∧ (if a = p then (i, s + 1) else key a).2 ≤ s + 1)
    rw [if_neg ne]
    omega
  · have z := List.mem_singleton.mp z
    subst z
    show (if a = a then (i, s + 1) else key a).2 = 0 ∨ (if a = a then (i, s + 1) else key a).1 < i ∨ ((if a = a then (i, s + 1) else key a).1 = i ∧ (if a = a then (i, s + 1) else key a).2 ≤ s + 1)
    rw [if_pos rfl]
    exact .inr (.inr ⟨rfl, Nat.le_refl _⟩)
theorem Kb.up {fs : List Addr} {key : Addr → Kf} {i s : Nat} (h : Kb fs key i s) : Kb fs key (i + 1) 0 := fun a ha => by
  have := h a ha
  omega
/-! ### a world in which these lists do not stand -/
def mdA (m : Md) (fs : List Addr) : Md := ⟨m.dk, fs ++ m.ex⟩
section
variable {m : Md} {H H' : Hp} {fs : List Addr} {a : Addr} {o : HO}
theorem mdA_ok (h : Ok m H) (e : ∀ a ∈ fs, H a ≠ none) : Ok (mdA m fs) H := ⟨h.dk, fun a ha => by
  rcases List.mem_append.mp ha with z | z
  · exact e a z
  · exact h.ex a z⟩
theorem mdA_sub (g : Go (mdA m fs) H H') : Go m H H' := ⟨⟨g.ok.dk, fun a ha => g.ok.ex a (List.mem_append_right _ ha)⟩, g.st⟩
theorem mdA_old (g : Go m H H') (hf : ∀ a ∈ fs, H a = none) : Same (VC.vw m H) (VC.vw (mdA m fs) H') := fun b x e => by
  obtain ⟨h1, h2, h3⟩ := vw_some (g.vw b x e)
  have hb : b ∉ fs := fun q => by
    have := (vw_some e).2.2
    rw [hf b q] at this
    cases this
  have hx : b ∉ (mdA m fs).ex := fun z => (List.mem_append.mp z).elim hb h1
  rw [vw_get (m := mdA m fs) hx h2]
  exact h3
theorem mdA_upd (ha : a ∈ fs) : VC.vw (mdA m fs) (upd H a o) = VC.vw (mdA m fs) H := by
  funext b
  unfold VC.vw
  by_cases z : b = a
  · have : b ∈ (mdA m fs).ex := List.mem_append_left _ (by rw [z]; exact ha)
    rw [if_pos this, if_pos this]
  · by_cases y : b ∈ (mdA m fs).ex
    · rw [if_pos y, if_pos y]
    · rw [if_neg y, if_neg y]
      cases q : (mdA m fs).dk with
      | none => exact upd_ne z
      | some w => obtain ⟨d, l⟩ := w; show hid d l _ b = hid d l _ b; unfold hid; rw [upd_ne z]
theorem Fam.md {n : Nat} {key : Addr → Kf} {R : Kf → Nat → Int} {Fx : List (Addr × HO)} (h : Fam m H H' n fs key R Fx) : Ok (mdA m fs) H' := mdA_ok h.g.ok fun a ha e => by
  rw [h.at_ a ha] at e
  cases e
end
/-! ### what the courses bring -/
def ctK (w : Int) (us : List Nat) (p : Nat) (k : Kf) (u : Nat) : Int := match k with
  | (i, 0) => if i < p ∧ us.getD i 0 = u then w else 0
  | (i, s + 1) => if i + 1 < p ∧ us.getD i 0 = s ∧ us.getD (i + 1) 0 = u then w else 0
theorem ctK_zero (w : Int) (us : List Nat) (k : Kf) (u : Nat) : ctK w us 0 k u = 0 := by
  obtain ⟨i, s⟩ := k
  cases s with
  | zero =>
    show (if i < 0 ∧ us.getD i 0 = u then w else 0) = 0
    exact if_neg fun q => absurd q.1 (Nat.not_lt_zero _)
  | succ s =>
    show (if i + 1 < 0 ∧ us.getD i 0 = s ∧ us.getD (i + 1) 0 = u then w else 0) = 0
    exact if_neg fun q => absurd q.1 (Nat.not_lt_zero _)
theorem ctK_first (w : Int) (us : List Nat) (k : Kf) (u : Nat) : ctK w us 1 k u = if k = (0, 0) ∧ u = us.getD 0 0 then w else 0 := by
  obtain ⟨i, s⟩ := k
  cases s with
  | zero =>
    show (if i < 1 ∧ us.getD i 0 = u then w else 0) = _
    by_cases e : i = 0
    · subst e
      by_cases f : u = us.getD 0 0
      · rw [if_pos ⟨by omega, f.symm⟩, if_pos ⟨rfl, f⟩]
      · rw [if_neg (fun q => f q.2.symm), if_neg (fun q => f q.2)]
    · rw [if_neg (fun q => e (by omega)), if_neg (fun q => e (congrArg Prod.fst q.1))]
  | succ s =>
    show (if i + 1 < 1 ∧ us.getD i 0 = s ∧ us.getD (i + 1) 0 = u then w else 0) = _
    rw [if_neg (fun q => absurd q.1 (by omega)), if_neg (fun q => absurd (congrArg Prod.snd q.1) (by simp))]
theorem ctK_next (w : Int) (us : List Nat) (p : Nat) (k : Kf) (u : Nat) : ctK w us (p + 2) k u = ctK w us (p + 1) k u + (if k = (p + 1, 0) ∧ u = us.getD (p + 1) 0 then w else 0) + (if k = (p, us.getD p 0 + 1) ∧ u = us.getD (p + 1) 0 then w else 0) := by
  obtain ⟨i, s⟩ := k
  cases s with
  | zero =>
    show (if i < p + 2 ∧ us.getD i 0 = u then w else 0) = (if i < p + 1 ∧ us.getD i 0 = u then w else 0) + _ + _
    rw [if_neg (c := (i, 0) = (p, us.getD p 0 + 1) ∧ u = us.getD (p + 1) 0) (fun q => absurd (congrArg Prod.snd q.1) (by simp)), Int.add_zero]
    by_cases e : i = p + 1
    · subst e
      rw [if_neg (c := p + 1 < p + 1 ∧ us.getD (p + 1) 0 = u) (fun q => absurd q.1 (by omega)), Int.zero_add]
      by_cases f : u = us.getD (p + 1) 0
      · rw [if_pos ⟨by omega, f.symm⟩, if_pos ⟨rfl, f⟩]
      · rw [if_neg (fun q => f q.2.symm), if_neg (fun q => f q.2)]
    · rw [if_neg (c := (i, 0) = (p + 1, 0) ∧ u = us.getD (p + 1) 0) (fun q => e (congrArg Prod.fst q.1)), Int.add_zero]
      by_cases f : i < p + 1 ∧ us.getD i 0 = u
      · rw [if_pos f, if_pos ⟨by omega, f.2⟩]
      · rw [if_neg f, if_neg (fun q => f ⟨by omega, q.2⟩)]
  | succ s =>
    show (if i + 1 < p + 2 ∧ us.getD i 0 = s ∧ us.getD (i + 1) 0 = u then w else 0) = (if i + 1 < p + 1 ∧ us.getD i 0 = s ∧ us.getD (i + 1) 0 = u then w else 0) + _ + _
    rw [if_neg (c := (i, s + 1) = (p + 1, 0) ∧ u = us.getD (p + 1) 0) (fun q => absurd (congrArg Prod.snd q.1) (by simp)), Int.add_zero]
    by_cases e : i = p
    · subst e
      rw [if_neg (c := i + 1 < i + 1 ∧ us.getD i 0 = s ∧ us.getD (i + 1) 0 = u) (fun q => absurd q.1 (by omega)), Int.zero_add]
      by_cases f : us.getD i 0 = s ∧ us.getD (i + 1) 0 = u
      · rw [if_pos ⟨by omega, f.1, f.2⟩, if_pos ⟨by rw [f.1], f.2.symm⟩]
      · rw [if_neg (fun q => f q.2), if_neg (fun q => f ⟨by have h : s + 1 = us.getD i 0 + 1 := congrArg Prod.snd q.1; omega, q.2.symm⟩)]
    · rw [if_neg (c := (i, s + 1) = (p, us.getD p 0 + 1) ∧ u = us.getD (p + 1) 0) (fun q => e (congrArg Prod.fst q.1)), Int.add_zero]
      by_cases f : i + 1 < p + 1 ∧ us.getD i 0 = s ∧ us.getD (i + 1) 0 = u
      · rw [if_pos f, if_pos ⟨by omega, f.2⟩]
      · rw [if_neg f, if_neg (fun q => f ⟨by omega, q.2⟩)]
theorem R1_at (R : Kf → Nat → Int) (k : Kf) (u : Nat) (w : Int) (k' : Kf) (u' : Nat) : R1 R k u w k' u' = R k' u' + (if k' = k ∧ u' = u then w else 0) := by
  unfold R1
  by_cases e : k' = k ∧ u' = u
  · rw [if_pos e, if_pos e, e.1, e.2]
  · rw [if_neg e, if_neg e, Int.add_zero]
theorem dqa_rng {K : PySem.W.Frag} {Hv : Hp} : ∀ (vs : List V) (f : Nat → PyData), (∀ i v, vs[i]? = some v → Dq K Hv v (f i)) → DqAll K Hv vs ((List.range vs.length).map f)
  | [], _, _ => .nil
  | v :: vs, f, h => by
    rw [List.length_cons, List.range_succ_eq_map, List.map_cons, List.map_map]
    exact .cons (h 0 v rfl) (dqa_rng vs (fun i => f (i + 1)) fun i w e => h (i + 1) w e)
theorem Fam.dq {K : PySem.W.Frag} {m : Md} {H H' : Hp} {n : Nat} {fs : List Addr} {key : Addr → Kf} {R : Kf → Nat → Int} {Fx : List (Addr × HO)} {a : Addr} {k : Kf} (h : Fam m H H' n fs key R Fx) (ha : Has fs key a k) : Dq K (VC.vw m H') (.ref a) (.list (((List.range n).map (R k)).map .int)) := by
  obtain ⟨h1, rfl⟩ := ha
  exact .lst (by rw [vw_get (h.ok0.nex (h.fr a h1)) (h.ok0.off (h.fr a h1))]; exact h.at_ a h1) (dqa_ints _)
theorem Fam.dqx {K : PySem.W.Frag} {m : Md} {H H' : Hp} {n : Nat} {fs : List Addr} {key : Addr → Kf} {R : Kf → Nat → Int} {Fx : List (Addr × HO)} {E : Addr} {vs : List V} {ds : List PyData} (h : Fam m H H' n fs key R Fx) (hE : (E, HO.lst vs) ∈ Fx) (hd : DqAll K (VC.vw m H') vs ds) : Dq K (VC.vw m H') (.ref E) (.list ds) := by
  obtain ⟨h1, h2, _⟩ := h.fx _ hE
  exact .lst (by rw [vw_get (h.ok0.nex h2) (h.ok0.off h2)]; exact h1) hd
theorem lw_all (c : Ch) (n : Nat) (os : List (Option Nat)) : ((courses n os.length).map (lwW c os)).sum = lwWh c n os := by
  unfold lwWh
  by_cases e : os = []
  · rw [if_pos e, e]
    show ([([] : List Nat)].map (lwW c [])).sum = 1
    simp [lwW, wholeR]
  · rw [if_neg e]
    obtain ⟨o, r, er⟩ : ∃ o r, os.reverse = o :: r := by
      cases q : os.reverse with
      | nil => exact absurd (List.reverse_eq_nil_iff.mp q) e
      | cons o r => exact ⟨o, r, rfl⟩
    have el : os.length = r.length + 1 := by rw [← List.length_reverse, er, List.length_cons]
    have h := sum_courses (lS c) (lP c) (ltW c) n r o fun _ => 1
    rw [← er, ← el] at h
    refine Eq.trans (congrArg List.sum (List.map_congr_left fun us _ => ?_)) (h.trans (congrArg List.sum (List.map_congr_left fun u _ => Int.mul_one _)))
    rw [Int.mul_one]
    rfl
end VP

/-! VQ20: math.lcm of numbers of many figures -/
namespace VP
open PySem PySem.Spec PyProof.Rows L2 VB VZ VC RT
theorem lcm_wide {prog : Program} {w : World} {A : Around} {E : Value → Shared → Prop} {s : Shared} {Q : Value → Shared → Prop} {a b : Int} {t u : Tok} (ha : a.natAbs < 2 ^ 9000) (hb : b.natAbs < 2 ^ 9000)
    (h : Q (.int (lcmI a b) s.toks) { s with toks := s.toks + 1 }) : wpAny (model prog w) A (call (.builtin "math.lcm") [.int a t, .int b u]) Q E s := by
  have l1 : (max 1 a.natAbs).log2 ≤ 9000 := by
    have : max 1 a.natAbs ≠ 0 := by omega
    have h2 : max 1 a.natAbs < 2 ^ 9000 := Nat.max_lt.mpr ⟨Nat.one_lt_two_pow_iff.mpr (by decide), ha⟩
    exact Nat.le_of_lt ((Nat.log2_lt this).mpr h2)
  have l2 : (max a.natAbs b.natAbs).log2 ≤ 9000 := by
    by_cases z : max a.natAbs b.natAbs = 0
    · rw [z]; decide
    · exact Nat.le_of_lt ((Nat.log2_lt z).mpr (Nat.max_lt.mpr ⟨ha, hb⟩))
  have hs : (a.natAbs.lcm b.natAbs).log2 < bitsLine := by
    have le : a.natAbs.lcm b.natAbs ≤ a.natAbs * b.natAbs := PySem.W.mc_lcm_le _ _
    have lt : a.natAbs.lcm b.natAbs ≤ 2 ^ (9000 + 9000) := by
      rw [Nat.pow_add]
      exact Nat.le_trans le (Nat.mul_le_mul (Nat.le_of_lt ha) (Nat.le_of_lt hb))
    refine PySem.W.mc_size (k := 300) (Nat.le_trans lt (Nat.pow_le_pow_right (by decide) (by decide))) (by decide)
  have e : (((Nat.lcm 1 a.natAbs).lcm b.natAbs : Nat) : Int) = lcmI a b := by rw [PySem.W.mc_lcm_one]; rfl
  refine PySem.call_function_meets PySem.W.MGF.kind_lcm PySem.W.MGF.plain_lcm PySem.W.MGF.entry_lcm (PySem.W.MGF.args_lcm _ _) (PySem.W.mg_run_lcm a t b u (by omega) (by omega) ?_).meets ?_
  · rw [PySem.W.mc_lcm_one]
    exact hs
  · rw [e]
    exact h
def rLcmW : List V → Hp → VK → Prop := fun vs H Q => ∃ a b : Int, vs = [.int a, .int b] ∧ Bd 9000 a ∧ Bd 9000 b ∧ Q (.int (lcmI a b)) H
theorem cr_lcmW {X : Cx} : CallR X (.builtin "math.lcm") rLcmW := by
  intro pins s σ H vs us Q I r h
  obtain ⟨a, b, rfl, ha, hb, q⟩ := h
  obtain ⟨t, u, rfl⟩ := Vals.int2 r
  exact lcm_wide ha hb ⟨.int _, H, I.tok _, ⟨_, rfl⟩, q⟩
def oLcmW : PC := fun ds P => ∃ a b, ds = [.py (.int a), .py (.int b)] ∧ Bd 9000 a ∧ Bd 9000 b ∧ P (.py (.int (lcmI a b)))
theorem sc_lcmW {K : PySem.W.Frag} : SC K rLcmW oLcmW := sc_flat fun m H xs ds Q P ho rx q k => by
  obtain ⟨a, c, rfl, ha, hc, h⟩ := q
  obtain ⟨v, w, rfl, r1, r2⟩ := rds2 rx
  cases r1.dp
  cases r2.dp
  exact ⟨a, c, rfl, ha, hc, k _ _ (rdp (.int _)) h⟩
end VP

/-! VQ21: the greatest of a list of numbers; where a number stands in a list -/
namespace VP
open PySem PySem.Spec PyProof.Rows L2 VB VZ VC RT
def oMaxL : PC := fun ds P => ∃ ns : List Int, ds = [.py (.list (ns.map .int))] ∧ 0 < ns.length ∧ ∀ m, m ∈ ns → (∀ y, y ∈ ns → y ≤ m) → P (.py (.int m))
theorem sc_maxL {K : PySem.W.Frag} : SC K (rMax K) oMaxL := sc_flat fun m H xs ds Q P ho rx q k => by
  obtain ⟨ns, rfl, h0, h⟩ := q
  obtain ⟨v, rfl, r⟩ := rds1 rx
  obtain ⟨p1, xs, rfl, e1, a1⟩ := dq_lst r.dp
  rw [dqa_ints_inv a1] at e1
  exact ⟨p1, ns, rfl, SqL.of (vw_sub _ _ e1), h0, fun m h1 h2 => k _ _ (rdp (.int _)) (h m h1 h2)⟩
theorem w_maxL {x : D} {ns : List Int} {P : D → Prop} (hx : x = .py (.list (ns.map .int))) (h0 : 0 < ns.length) (h : ∀ m, m ∈ ns → (∀ y, y ∈ ns → y ≤ m) → P (.py (.int m))) : oMaxL [x] P := ⟨ns, by rw [hx], h0, h⟩
def pLIdx (po pe : PTE) : PTE := fun env P => po env fun x => ∃ ns : List Int, x = .py (.list (ns.map .int)) ∧ pe env fun y => ∃ i : Int, y = .py (.int i) ∧ i ∈ ns ∧ P (.py (.int (ns.idxOf i : Nat)))
section
variable {X : Cx} {B : Hp} {m0 : Md} {b : Bs} {o e : Expr} {to te : TE} {po pe : PTE} {apos cpos : Pos}
theorem se_lidx (ho : SE b to po) (he : SE b te pe) : SE b (tBM b.K "list" (rIndex b.K) to (tCons te tNil)) (pLIdx po pe) := fun W σ env H Q P hR hp k =>
  ho W σ env H _ _ hR hp fun x dx H1 g1 r1 q1 => by
    obtain ⟨ns, rfl, q1⟩ := q1
    obtain ⟨p1, xs, rfl, e1, a1⟩ := dq_lst r1.dp
    rw [dqa_ints_inv a1] at e1
    have e1' := vw_sub _ _ e1
    refine ⟨.inl ⟨rfl, _, SqL.of e1'⟩, ?_⟩
    refine he W σ env H1 _ _ (hR.go g1) q1 fun y dy H2 g2 r2 q2 => ?_
    obtain ⟨i, rfl, hi, q2⟩ := q2
    cases r2.dp
    have e2 := vw_sub _ _ (g2.vw _ _ e1)
    have hl := List.idxOf_lt_length_iff.mpr hi
    refine ⟨p1, ns.map V.int, .int i, ns.idxOf i, .int i, rfl, rfl, SqL.of e2, rfl, ?_, ?_, ?_, fun m z' hm hz => ?_, k _ _ H2 (g1.trans g2) (rdp (.int _)) q2⟩
    · rw [List.all_eq_true]
      intro z hz
      obtain ⟨n, _, rfl⟩ := List.mem_map.mp hz
      rfl
    · rw [List.getElem?_map, List.getElem?_eq_getElem hl, List.getElem_idxOf]
      rfl
    · show (i == i) = true
      exact beq_self_eq_true i
    · rw [List.getElem?_map] at hz
      obtain ⟨n, hn, rfl⟩ := Option.map_eq_some_iff.mp hz
      show (n == i) = false
      rw [beq_eq_false_iff_ne]
      intro q
      subst q
      obtain ⟨l1, e3⟩ := List.getElem?_eq_some_iff.mp hn
      have q2 := List.not_of_lt_findIdx (p := (· == n)) hm
      rw [e3] at q2
      simp at q2
theorem qe_lidx {K' : PySem.W.Frag} (ho : QE X B m0 o to po) (he : QE X B m0 e te pe) (hbase : attributeBase o "index" X.env (eval o X.env) = eval o X.env := by rfl)
    (hfew : ((backTo cpos (starEach [e] X.env)).all (fun x => !x.1) && (backToKw cpos (keywordEach [] X.env)).all (fun x => x.1.isSome) && decide ([e].length + ([] : List Keyword).length + (if ([] : List Keyword).isEmpty then 0 else 1) < 30)) = true := by rfl)
    (hline : (apos.endLine == cpos.line) = true := by rfl) (hs : starEach [e] X.env = (false, eval e X.env) :: starEach [] X.env := by rfl) (hplain : (backTo cpos (starEach [] X.env)).any (·.1) = false := by rfl) (hK : X.K = K' := by rfl) :
    QE X B m0 (.Call (.Attribute o "index" apos) [e] [] cpos) (tBM K' "list" (rIndex K') to (tCons te tNil)) (pLIdx po pe) := by
  subst hK
  exact ⟨pe_bm PySem.F.plainAttrs_list PySem.F.slot_list_index PySem.F.type_list_index mt_index ho.p (pa_cons he.p pa_nil hs) hbase hfew hline hs hplain, se_lidx (b := bs X B m0) ho.s he.s⟩
theorem w_lidx {env : PEnv} {P : D → Prop} (h : po env fun x => ∃ ns : List Int, x = .py (.list (ns.map .int)) ∧ pe env fun y => ∃ i : Int, y = .py (.int i) ∧ i ∈ ns ∧ P (.py (.int (ns.idxOf i : Nat)))) : pLIdx po pe env P := h
end
end VP

/-! VQ22: what repr asks where integers are great -/
namespace VP
open PySem PySem.Spec PyProof.Rows L2 VB VZ VC RT
structure Fb (w dd : Nat) (d : PyData) : Prop where
  sh : showB d = true
  wt : wtB d ≤ w
  dp : d.depth ≤ dd
structure FbA (w dd : Nat) (ds : List PyData) : Prop where
  sh : showBA ds = true
  wt : wtBA ds ≤ w
  dp : PyData.depthAll ds ≤ dd
section
variable {w dd w' d' : Nat} {d : PyData} {ds : List PyData}
theorem Fb.fit (h : Fb w dd d) (hw : w ≤ 16000000 := by decide) (hd : dd < 60 := by decide) : FitB d := ⟨h.sh, Nat.le_trans h.wt hw, Nat.lt_of_le_of_lt h.dp hd⟩
theorem Fb.mono (h : Fb w dd d) (hw : w ≤ w') (hd : dd ≤ d') : Fb w' d' d := ⟨h.sh, Nat.le_trans h.wt hw, Nat.le_trans h.dp hd⟩
theorem FbA.mono (h : FbA w dd ds) (hw : w ≤ w') (hd : dd ≤ d') : FbA w' d' ds := ⟨h.sh, Nat.le_trans h.wt hw, Nat.le_trans h.dp hd⟩
theorem Fz.b (h : Fz w dd d) : Fb w dd d := ⟨showB_of h.sh, Nat.le_trans (wtB_le d h.sh) h.wt, h.dp⟩
theorem fba_nil : FbA 0 0 [] := ⟨rfl, Nat.le_refl _, Nat.le_refl _⟩
theorem fba_cons (h : Fb w dd d) (t : FbA w' d' ds) : FbA (w + 2 + w') (max dd d') (d :: ds) := by
  refine ⟨?_, ?_, ?_⟩
  · simp only [showBA, h.sh, t.sh, Bool.and_self]
  · have := h.wt
    have := t.wt
    simp only [VB.wtBA]
    omega
  · have := h.dp
    have := t.dp
    simp only [PyData.depthAll]
    omega
theorem fba_all (h : ∀ d ∈ ds, Fb w dd d) : FbA (ds.length * (w + 2)) dd ds := by
  induction ds with
  | nil => exact fba_nil.mono (by simp) (Nat.zero_le _)
  | cons x r ih =>
    refine (fba_cons (h x (by simp)) (ih fun d hd => h d (by simp [hd]))).mono ?_ (by omega)
    rw [List.length_cons, Nat.add_mul]
    omega
theorem fb_lst (h : FbA w dd ds) : Fb (w + 3) (dd + 1) (.list ds) := by
  refine ⟨?_, ?_, ?_⟩
  · simp only [showB, h.sh]
  · have := h.wt
    simp only [VB.wtB]
    omega
  · have := h.dp
    simp only [PyData.depth]
    omega
theorem fb_tup (h : FbA w dd ds) : Fb (w + 3) (dd + 1) (.tuple ds) := by
  refine ⟨?_, ?_, ?_⟩
  · simp only [showB, h.sh]
  · have := h.wt
    simp only [VB.wtB]
    omega
  · have := h.dp
    simp only [PyData.depth]
    omega
theorem fb_int {k : Nat} {i : Int} (h : Bd k i) (k0 : 0 < k) (hk : k ≤ 12900) : Fb (k + 1) 0 (.int i) := by
  have l := h.log (n := k) (Nat.le_refl _) k0
  refine ⟨?_, ?_, Nat.le_refl _⟩
  · simp only [showB]
    exact decide_eq_true (by omega)
  · simp only [VB.wtB]
    omega
theorem fb_bool (b : Bool) : Fb 5 0 (.bool b) := ⟨rfl, Nat.le_refl _, Nat.le_refl _⟩
theorem fb_none : Fb 4 0 .none := ⟨rfl, Nat.le_refl _, Nat.le_refl _⟩
theorem fb_str {z : Str} (h : (reprText z).length ≤ w) : Fb w 0 (.str z) := ⟨rfl, h, Nat.le_refl _⟩
theorem fb_r {k : Nat} {q : Rat} (h : Rb k q) (k0 : 0 < k) (hk : k ≤ 12900) : Fb (2 * k + 9) 1 (rD q) := (fb_tup (fba_cons (fb_int h.num k0 hk) (fba_cons (fb_int h.den k0 hk) fba_nil))).mono (by omega) (by decide)
end
end VP

/-! VQ23: dict.update with a dict -/
namespace VP
open PySem PySem.Spec PyProof.Rows L2 VB VZ VC RT
def rUpd : V → List V → Hp → VK → Prop := fun x vs H Q => ∃ a b kvs more, x = .ref a ∧ vs = [.ref b] ∧ H a = some (.dK kvs) ∧ H b = some (.dK more) ∧ a ≠ b ∧ kvs.length + more.length ≤ 1000 ∧ Q .non (upd H a (.dK (mergeK kvs more)))
theorem mt_upd {X : Cx} : MtR X "dict.update" rUpd := by
  intro pins s σ H x vs v us Q I rx rv h
  obtain ⟨a, b, kvs, more, rfl, rfl, ea, eb, ne, hz, q⟩ := h
  cases rx
  obtain ⟨u, rfl, ru⟩ := rv.one
  cases ru
  obtain ⟨z, hd, ps, rel, dd⟩ := dk_of I.hok ea
  obtain ⟨z2, hd2, rs, rel2, dd2⟩ := dk_of I.hok eb
  have l0 := length_mergeK more kvs
  have l1 : (1000 : Nat) ≤ sizeLine := by decide
  refine call_meetsIn PySem.F.slot_dict_update dd.typeIs PySem.F.entry_dict_update (PySem.F.args_dict_update_2 _ _)
    (meets_dict_update (mixKind X.prog X.w) a b ne hd2) ⟨ps, rs, dd, dd2, by rw [← rel.length, ← rel2.length]; omega, fun h' dd' _ hs => ?_⟩
  have he : ∃ q, h'.get? a = some q := let ⟨q, _, _, hq, _⟩ := dd'; ⟨q, hq⟩
  exact ⟨.non, _, d_write I (by rw [ea]; exact True.intro) hs he (dk_new (by omega) hd (rel2.merge rel) dd'), rfl, q⟩
theorem r_upd {K : PySem.W.Frag} {a b : Addr} {kvs more : List (Key × V)} {H : Hp} {Q : VK} (ea : H a = some (.dK kvs)) (eb : H b = some (.dK more)) (ne : a ≠ b) (hz : kvs.length + more.length ≤ 1000) (q : Q .non (upd H a (.dK (mergeK kvs more)))) : rUpd (.ref a) [.ref b] H Q := ⟨a, b, kvs, more, rfl, rfl, ea, eb, ne, hz, q⟩
end VP

/-! VQ24: chains of one sum, whose sums may have many figures -/
namespace VP
open PySem PySem.Spec PyProof.Rows L2 VB VZ VC RT
theorem smb_up {a b : Nat} {ls : List (List Int)} (h : Smb a ls) (e : a ≤ b) : Smb b ls := fun l hl => ⟨(h l hl).1, (h l hl).2.mono e⟩
theorem evM_bd {b r m kb : Nat} {ls : List (List Int)} (hm : Mtx b r m ls) (r6 : r ≤ 6) (sm : Smb kb ls) : Mtx (b + (6 * kb + 1)) r m (evM ls) := by
  obtain ⟨a1, a2, _, a4⟩ := lcmF_pp ls 1 1 sm (by decide) one_bd1
  have a2 : Bd (6 * kb + 1) (lcmF 1 ls) := a2.mono (by
    have : kb * ls.length ≤ kb * 6 := Nat.mul_le_mul_left _ (by rw [hm.len]; omega)
    omega)
  refine ⟨by unfold evM; rw [List.length_map]; exact hm.len, fun l hl => ?_⟩
  obtain ⟨l0, h0, rfl⟩ := List.mem_map.mp hl
  obtain ⟨q0, q1⟩ := sm l0 h0
  have L0 := hm.lin l0 h0
  have w0 := fdiv_le (x := lcmF 1 ls) (g := l0.sum) (by omega) q0 (a4 l0 h0)
  refine ⟨by rw [evL_len]; exact L0.len, fun x hx => ?_, by rw [evL_sum (a4 l0 h0)]; exact a1⟩
  obtain ⟨y, hy, rfl⟩ := List.mem_map.mp hx
  obtain ⟨y0, yb⟩ := L0.bd y hy
  exact ⟨Int.mul_nonneg y0 w0.1, yb.mul (a2.of_le w0.2)⟩
theorem evM_rowW {b r n kb : Nat} {ls : List (List Int)} (h : Mtx b r n ls) (sm : Smb kb ls) {s : Nat} (hs : s < r) : (evM ls).getD s [] = evL (lcmF 1 ls) (ls.getD s []) ∧ (ls.getD s []).sum ∣ lcmF 1 ls ∧ ((evM ls).getD s []).sum = lcmF 1 ls := by
  obtain ⟨l, e1, e2, _⟩ := row_of h hs
  have e3 : (evM ls).getD s [] = evL (lcmF 1 ls) l := getD_of (by unfold evM; rw [List.getElem?_map, e1]; rfl)
  have d := (lcmF_pp ls 1 1 sm (by decide) one_bd1).2.2.2 l (List.mem_of_getElem? e1)
  rw [e2, e3]
  exact ⟨rfl, d, evL_sum d⟩
/-- a chain and its evened one: e bounds the figures of the evened weights -/
structure Ew (e n k : Nat) (c : Ch) : Prop where
  ok : ∃ b, b ≤ 2000 ∧ ChOk b n k c
  ev : ChOk e n k (evC c)
  sm : ∃ kb, kb ≤ 300 ∧ Smb kb (c.sp.map plL) ∧ Smb kb (c.tl.map plL)
section
variable {e n k b kb : Nat} {c : Ch}
theorem ew_mk (hc : ChOk b n k c) (b2 : b ≤ 2000) (k3 : kb ≤ 300) (h1 : Smb kb (c.sp.map plL)) (h2 : Smb kb (c.tl.map plL)) : Ew (b + (6 * kb + 1)) n k c where
  ok := ⟨b, b2, hc⟩
  ev := ⟨hc.n1, hc.n6, hc.k1, hc.k5, hc.sg, (plL_lin hc.st).mono (by omega), evM_bd (plL_mtx hc.sp) hc.n6 h1, evM_bd (plL_mtx hc.tl) hc.n6 h2⟩
  sm := ⟨kb, k3, h1, h2⟩
theorem ew_of (hc : ChOk b n k c) (b2 : b ≤ 2000) (s1 : Small (c.sp.map plL)) (s2 : Small (c.tl.map plL)) : Ew (b + 60) n k c where
  ok := ⟨b, b2, hc⟩
  ev := evC_ok hc s1 s2
  sm := ⟨10, by decide, smb_of s1, smb_of s2⟩
theorem Ew.mono {e' : Nat} (h : Ew e n k c) (l : e ≤ e') : Ew e' n k c := ⟨h.ok, ⟨h.ev.n1, h.ev.n6, h.ev.k1, h.ev.k5, h.ev.sg, h.ev.st.mono l, h.ev.sp.mono l, h.ev.tl.mono l⟩, h.sm⟩
theorem Ew.n6 (h : Ew e n k c) : n ≤ 6 := h.ev.n6
theorem Ew.n1 (h : Ew e n k c) : 1 ≤ n := h.ev.n1
theorem Ew.k5 (h : Ew e n k c) : k ≤ 5 := h.ev.k5
theorem Ew.nz (h : Ew e n k c) : Nz n c := let ⟨_, _, hc⟩ := h.ok; nz_of hc
theorem Ew.sg (h : Ew e n k c) : Sgs k c.sg := h.ev.sg
theorem Ew.cr (h : Ew e n k c) : RCr n (evC c) c := by
  obtain ⟨b, b2, hc⟩ := h.ok
  obtain ⟨kb, _, s1, s2⟩ := h.sm
  refine ⟨lcr_pl _, fun s hs => ?_, fun s hs => ?_⟩
  · obtain ⟨e, d, _⟩ := evM_rowW (plL_mtx hc.sp) s1 hs
    obtain ⟨l, e1, e2, e3⟩ := row_of hc.sp hs
    show LCr ((evM (c.sp.map plL)).getD s []) _
    rw [e]
    rw [getD_pl, e2] at d ⊢
    exact (lcr_ev d).trans (lcr_pl l) (plL_sum e3.sum)
  · obtain ⟨e, d, _⟩ := evM_rowW (plL_mtx hc.tl) s2 hs
    obtain ⟨l, e1, e2, e3⟩ := row_of hc.tl hs
    show LCr ((evM (c.tl.map plL)).getD s []) _
    rw [e]
    rw [getD_pl, e2] at d ⊢
    exact (lcr_ev d).trans (lcr_pl l) (plL_sum e3.sum)
theorem Ew.evn (h : Ew e n k c) : Evn n (evC c) (evC c).st.sum ((evC c).sp.headD []).sum ((evC c).tl.headD []).sum := by
  obtain ⟨b, b2, hc⟩ := h.ok
  obtain ⟨kb, _, s1, s2⟩ := h.sm
  have hp := plC_ok hc
  have n1 := hc.n1
  have e1 : ((evC c).sp.headD []).sum = lcmF 1 (c.sp.map plL) := by
    refine Eq.trans ?_ (evM_rowW hp.sp s1 (show 0 < n by omega)).2.2
    show ((evM (c.sp.map plL)).headD []).sum = ((evM (c.sp.map plL)).getD 0 []).sum
    cases evM (c.sp.map plL) <;> rfl
  have e2 : ((evC c).tl.headD []).sum = lcmF 1 (c.tl.map plL) := by
    refine Eq.trans ?_ (evM_rowW hp.tl s2 (show 0 < n by omega)).2.2
    show ((evM (c.tl.map plL)).headD []).sum = ((evM (c.tl.map plL)).getD 0 []).sum
    cases evM (c.tl.map plL) <;> rfl
  rw [e1, e2]
  refine ⟨rfl, fun s hs => (evM_rowW hp.sp s1 hs).2.2, fun s hs => (evM_rowW hp.tl s2 hs).2.2, ?_, ?_, ?_⟩
  · have := h.ev.st.sum; omega
  · have := (lcmF_pp (c.sp.map plL) 1 1 s1 (by decide) one_bd1).1; omega
  · have := (lcmF_pp (c.tl.map plL) 1 1 s2 (by decide) one_bd1).1; omega
theorem Ew.pos (h : Ew e n k c) : 0 < (evC c).st.sum ∧ 0 < ((evC c).sp.headD []).sum ∧ 0 < ((evC c).tl.headD []).sum := by
  have hE := h.ev
  obtain ⟨r0, er0, er1, er2⟩ := head_of hE.sp.len hE.n1
  obtain ⟨t0, et0, et1, et2⟩ := head_of hE.tl.len hE.n1
  rw [er1, et1]
  exact ⟨hE.st.sum, (hE.sp.lin _ er2).sum, (hE.tl.lin _ et2).sum⟩
end
def psMulLnW : PSp := fun ds P _ => ∃ (ns : List Int) (f : Int), ds = [.py (lnD ns), .py (.int f)] ∧ ns.length ≤ 6 ∧ Bd 8000 f ∧ (∀ x ∈ ns, Bd 8000 x) ∧ P (.py (lnD (ns.map (· * f))))
def psEvMW : PSp := fun ds P _ => ∃ (ls : List (List Int)) (b r n kb : Nat), ds = [.py (mtD ls)] ∧ Mtx b r n ls ∧ r ≤ 6 ∧ n ≤ 6 ∧ b ≤ 2000 ∧ kb ≤ 300 ∧ Smb kb ls ∧ P (.py (mtD (evM ls)))
def psEvenedW : PSp := fun ds P _ => ∃ (c : Ch) (e n k : Nat), ds = [.py (chD c)] ∧ Ew e n k c ∧ P (.py (chD (evC c)))
end VP

/-! VQ25: the least place of the greatest -/
namespace VP
open PySem PySem.Spec PyProof.Rows L2 VB VZ VC RT
theorem pe_lidx {X : Cx} {K' : PySem.W.Frag} {o e : Expr} {to te : TE} {apos cpos : Pos} (ho : PE X o to) (he : PE X e te) (hbase : attributeBase o "index" X.env (eval o X.env) = eval o X.env := by rfl)
    (hfew : ((backTo cpos (starEach [e] X.env)).all (fun x => !x.1) && (backToKw cpos (keywordEach [] X.env)).all (fun x => x.1.isSome) && decide ([e].length + ([] : List Keyword).length + (if ([] : List Keyword).isEmpty then 0 else 1) < 30)) = true := by rfl)
    (hline : (apos.endLine == cpos.line) = true := by rfl) (hs : starEach [e] X.env = (false, eval e X.env) :: starEach [] X.env := by rfl) (hplain : (backTo cpos (starEach [] X.env)).any (·.1) = false := by rfl) (hK : X.K = K' := by rfl) :
    PE X (.Call (.Attribute o "index" apos) [e] [] cpos) (tBM K' "list" (rIndex K') to (tCons te tNil)) := by
  subst hK
  exact pe_bm PySem.F.plainAttrs_list PySem.F.slot_list_index PySem.F.type_list_index mt_index ho (pa_cons he pa_nil hs) hbase hfew hline hs hplain
theorem r_lidxI {K : PySem.W.Frag} {H : Hp} {a : Addr} {ns : List Int} {i : Int} {Q : VK} (e2 : H a = some (.lst (ns.map V.int))) (hi : i ∈ ns) (q : Q (.int (ns.idxOf i : Nat)) H) : rIndex K (.ref a) [.int i] H Q := by
  have hl := List.idxOf_lt_length_iff.mpr hi
  refine ⟨a, ns.map V.int, .int i, ns.idxOf i, .int i, rfl, rfl, SqL.of e2, rfl, ?_, ?_, ?_, fun m z' hm hz => ?_, q⟩
  · rw [List.all_eq_true]
    intro z hz
    obtain ⟨n, _, rfl⟩ := List.mem_map.mp hz
    rfl
  · rw [List.getElem?_map, List.getElem?_eq_getElem hl, List.getElem_idxOf]
    rfl
  · show (i == i) = true
    exact beq_self_eq_true i
  · rw [List.getElem?_map] at hz
    obtain ⟨n, hn, rfl⟩ := Option.map_eq_some_iff.mp hz
    show (n == i) = false
    rw [beq_eq_false_iff_ne]
    intro q
    subst q
    obtain ⟨l1, e3⟩ := List.getElem?_eq_some_iff.mp hn
    have q2 := List.not_of_lt_findIdx (p := (· == n)) hm
    rw [e3] at q2
    simp at q2
theorem r_maxI {K : PySem.W.Frag} {H : Hp} {a : Addr} {ns : List Int} {Q : VK} (e : H a = some (.lst (ns.map V.int))) (h0 : 0 < ns.length) (h : ∀ m, m ∈ ns → (∀ y, y ∈ ns → y ≤ m) → Q (.int m) H) : rMax K [.ref a] H Q := ⟨a, ns, rfl, SqL.of e, h0, h⟩
structure IsAm (n : Nat) (q : Nat → Rat) (j : Nat) : Prop where
  lt : j < n
  top : ∀ v, v < n → q v ≤ q j
  lst : ∀ i, i < j → q i < q j
def amQ (q : Nat → Rat) : Nat → Nat
  | 0 => 0
  | n + 1 => if n ≠ 0 ∧ q (amQ q n) < q n then n else amQ q n
theorem amQ_is {q : Nat → Rat} : ∀ n, 1 ≤ n → IsAm n q (amQ q n)
  | 0, h => absurd h (by decide)
  | 1, _ => by
    have e : amQ q 1 = 0 := if_neg fun h => h.1 rfl
    rw [e]
    refine ⟨by decide, fun v hv => ?_, fun i hi => absurd hi (Nat.not_lt_zero i)⟩
    have : v = 0 := by omega
    subst this
    exact Rat.le_refl
  | n + 2, _ => by
    have ih := amQ_is (q := q) (n + 1) (by omega)
    show IsAm (n + 2) q (if n + 1 ≠ 0 ∧ q (amQ q (n + 1)) < q (n + 1) then n + 1 else amQ q (n + 1))
    by_cases c : q (amQ q (n + 1)) < q (n + 1)
    · rw [if_pos ⟨by omega, c⟩]
      refine ⟨by omega, fun v hv => ?_, fun i hi => ?_⟩
      · by_cases e : v = n + 1
        · subst e; exact Rat.le_refl
        · have := ih.top v (by omega)
          grind
      · have := ih.top i (by omega)
        grind
    · rw [if_neg (fun h => c h.2)]
      refine ⟨by have := ih.lt; omega, fun v hv => ?_, ih.lst⟩
      by_cases e : v = n + 1
      · subst e; grind
      · exact ih.top v (by omega)
theorem IsAm.uniq {n : Nat} {q : Nat → Rat} {i j : Nat} (a : IsAm n q i) (b : IsAm n q j) : i = j := by
  rcases Nat.lt_trichotomy i j with h | h | h
  · have h1 := b.lst i h
    have h2 := a.top j b.lt
    grind
  · exact h
  · have h1 := a.lst j h
    have h2 := b.top i a.lt
    grind
theorem IsAm.eq {n : Nat} {q : Nat → Rat} {j : Nat} (a : IsAm n q j) : j = amQ q n := a.uniq (amQ_is n (Nat.lt_of_le_of_lt (Nat.zero_le _) a.lt))
theorem amQ_congr {n : Nat} {q r : Nat → Rat} (n1 : 1 ≤ n) {d : Rat} (hd : 0 < d) (h : ∀ u, u < n → q u = r u * d) : amQ q n = amQ r n := by
  have a := amQ_is (q := q) n n1
  refine IsAm.eq ⟨a.lt, fun v hv => ?_, fun i hi => ?_⟩
  · have := a.top v hv
    rw [h v hv, h _ a.lt] at this
    exact Rat.le_of_mul_le_mul_right this hd
  · have := a.lst i hi
    rw [h i (by have := a.lt; omega), h _ a.lt] at this
    exact Rat.lt_of_mul_lt_mul_right this (Rat.le_of_lt hd)
/-- where the greatest of some numbers stands first -/
theorem idx_am {n : Nat} {f : Nat → Int} {q : Nat → Rat} {d : Rat} {m : Int} (hd : 0 < d) (h : ∀ u, u < n → (f u : Rat) = q u * d) (h1 : m ∈ (List.range n).map f) (h2 : ∀ y ∈ (List.range n).map f, y ≤ m) : ((List.range n).map f).idxOf m = amQ q n := by
  have hl := List.idxOf_lt_length_iff.mpr h1
  have hl' : ((List.range n).map f).idxOf m < n := by simpa using hl
  have hg : ((List.range n).map f)[((List.range n).map f).idxOf m]'hl = m := List.getElem_idxOf hl
  generalize hj : ((List.range n).map f).idxOf m = j at *
  have hf : f j = m := by
    rw [← hg, List.getElem_map, List.getElem_range]
  refine IsAm.eq ⟨hl', fun v hv => ?_, fun i hi => ?_⟩
  · have le := h2 (f v) (List.mem_map.mpr ⟨v, List.mem_range.mpr hv, rfl⟩)
    have le' : (f v : Rat) ≤ (m : Rat) := Rat.intCast_le_intCast.mpr le
    rw [← hf, h v hv, h j hl'] at le'
    exact Rat.le_of_mul_le_mul_right le' hd
  · have hi' : i < n := by omega
    have le := h2 (f i) (List.mem_map.mpr ⟨i, List.mem_range.mpr hi', rfl⟩)
    have ne : f i ≠ m := by
      intro e
      have q2 := List.not_of_lt_findIdx (p := (· == m)) (xs := (List.range n).map f) (i := i) (by
        show i < ((List.range n).map f).idxOf m
        rw [hj]
        exact hi)
      rw [List.getElem_map, List.getElem_range, e] at q2
      simp at q2
    have lt' : (f i : Rat) < (m : Rat) := Rat.intCast_lt_intCast.mpr (by omega)
    rw [← hf, h i hi', h j hl'] at lt'
    exact Rat.lt_of_mul_lt_mul_right lt' (Rat.le_of_lt hd)
end VP

/-! VQ26: greatest products along a view -/
namespace VP
open PySem PySem.Spec PyProof.Rows L2 VB VZ VC RT
/-- the greatest of some numbers -/
def mxQ (q : Nat → Rat) (n : Nat) : Rat := q (amQ q n)
theorem mxQ_top {q : Nat → Rat} {n u : Nat} (h : u < n) : q u ≤ mxQ q n := (amQ_is (q := q) n (by omega)).top u h
theorem amQ_lt {q : Nat → Rat} {n : Nat} (h : 1 ≤ n) : amQ q n < n := (amQ_is (q := q) n h).lt
theorem mxQ_mul {n : Nat} {q r : Nat → Rat} (n1 : 1 ≤ n) {d : Rat} (hd : 0 < d) (h : ∀ u, u < n → q u = r u * d) : mxQ q n = mxQ r n * d := by
  unfold mxQ
  rw [amQ_congr n1 hd h]
  exact h _ (amQ_lt n1)
theorem mxQ_congr {n : Nat} {q r : Nat → Rat} (n1 : 1 ≤ n) (h : ∀ u, u < n → q u = r u) : mxQ q n = mxQ r n := by
  have := mxQ_mul (q := q) (r := r) (d := 1) n1 (by decide) fun u hu => by rw [h u hu, Rat.mul_one]
  rw [this, Rat.mul_one]
theorem mxQ_le {n : Nat} {q : Nat → Rat} {m : Rat} (n1 : 1 ≤ n) (h : ∀ u, u < n → q u ≤ m) : mxQ q n ≤ m := h _ (amQ_lt n1)
/-- the greatest of some integers -/
def mxI (f : Nat → Int) (n : Nat) : Int := f (amQ (fun u => (f u : Rat)) n)
theorem mxI_cast (f : Nat → Int) (n : Nat) : (mxI f n : Rat) = mxQ (fun u => (f u : Rat)) n := rfl
theorem mxI_top {f : Nat → Int} {n u : Nat} (h : u < n) : f u ≤ mxI f n := Rat.intCast_le_intCast.mp (mxQ_top (q := fun u => (f u : Rat)) h)
theorem mxI_of {f : Nat → Int} {n : Nat} (n1 : 1 ≤ n) {m : Int} (h1 : m ∈ (List.range n).map f) (h2 : ∀ y ∈ (List.range n).map f, y ≤ m) : m = mxI f n := by
  obtain ⟨u, hu, rfl⟩ := List.mem_map.mp h1
  have a := mxI_top (f := f) (List.mem_range.mp hu)
  have b := h2 (mxI f n) (List.mem_map.mpr ⟨_, List.mem_range.mpr (amQ_lt n1), rfl⟩)
  omega
theorem mxI_mem {f : Nat → Int} {n : Nat} (n1 : 1 ≤ n) {p : Int → Prop} (h : ∀ u, u < n → p (f u)) : p (mxI f n) := h _ (amQ_lt n1)
/-- the greatest product of the ways on -/
def bstQ (c : Ch) (n : Nat) : List (Option Nat) → Nat → Rat
  | [], _ => 1
  | o :: v, s => mxQ (fun u => qP c s u * (qT c u o * bstQ c n v u)) n
def bI (P : Nat → Nat → Int) (T : Nat → Option Nat → Int) (n : Nat) : List (Option Nat) → Nat → Int
  | [], _ => 1
  | o :: v, s => mxI (fun u => P s u * (T u o * bI P T n v u)) n
def bD (A1 : Int) (A2 : Option Nat → Int) : List (Option Nat) → Int
  | [] => 1
  | o :: v => A1 * (A2 o * bD A1 A2 v)
section
variable {c : Ch} {n : Nat} {P : Nat → Nat → Int} {T : Nat → Option Nat → Int} {A1 : Int} {A2 : Option Nat → Int}
theorem bD_pos (h1 : 0 < A1) (h2 : ∀ o, 0 < A2 o) : ∀ v, 0 < bD A1 A2 v
  | [] => by show (0 : Int) < 1; decide
  | o :: v => Int.mul_pos h1 (Int.mul_pos (h2 o) (bD_pos h1 h2 v))
theorem bI_q (n1 : 1 ≤ n) (h1 : 0 < A1) (h2 : ∀ o, 0 < A2 o) (hP : ∀ s u, s < n → u < n → (P s u : Rat) = qP c s u * (A1 : Rat)) : ∀ (v : List (Option Nat)), (∀ o ∈ v, ∀ u, u < n → (T u o : Rat) = qT c u o * (A2 o : Rat)) → ∀ s, s < n → (bI P T n v s : Rat) = bstQ c n v s * (bD A1 A2 v : Rat)
  | [], _, s, _ => by
    show ((1 : Int) : Rat) = 1 * ((1 : Int) : Rat)
    rw [Rat.one_mul]
  | o :: v, hT, s, hs => by
    show (mxI (fun u => P s u * (T u o * bI P T n v u)) n : Rat) = mxQ (fun u => qP c s u * (qT c u o * bstQ c n v u)) n * ((A1 * (A2 o * bD A1 A2 v) : Int) : Rat)
    rw [mxI_cast]
    refine mxQ_mul n1 (Rat.intCast_lt_intCast (a := 0).mpr (bD_pos h1 h2 (o :: v))) fun u hu => ?_
    rw [Rat.intCast_mul, Rat.intCast_mul, hP s u hs hu, hT o (by simp) u hu, bI_q n1 h1 h2 hP v (fun o ho => hT o (by simp [ho])) u hu, Rat.intCast_mul, Rat.intCast_mul]
    grind
theorem bI_bd {e : Nat} (n1 : 1 ≤ n) (hP : ∀ s u, s < n → u < n → 0 ≤ P s u ∧ Bd e (P s u)) : ∀ (v : List (Option Nat)), (∀ o ∈ v, ∀ u, u < n → 0 ≤ T u o ∧ Bd e (T u o)) → ∀ s, s < n → 0 ≤ bI P T n v s ∧ Bd (2 * e * v.length + 1) (bI P T n v s)
  | [], _, s, _ => ⟨by show (0 : Int) ≤ 1; decide, one_bd (by omega)⟩
  | o :: v, hT, s, hs => by
    refine mxI_mem (p := fun x => 0 ≤ x ∧ Bd (2 * e * (o :: v).length + 1) x) n1 fun u hu => ?_
    obtain ⟨a1, a2⟩ := bI_bd n1 hP v (fun o ho => hT o (by simp [ho])) u hu
    obtain ⟨b1, b2⟩ := hP s u hs hu
    obtain ⟨c1, c2⟩ := hT o (by simp) u hu
    refine ⟨Int.mul_nonneg b1 (Int.mul_nonneg c1 a1), (b2.mul (c2.mul a2)).mono ?_⟩
    have : 2 * e * (o :: v).length = 2 * e * v.length + 2 * e := by rw [List.length_cons, Nat.mul_succ]
    omega
end
/-- the states at which the greatest is -/
def amS (q : Nat → Rat) (n : Nat) : List Nat := (List.range n).filter fun u => decide (q u = mxQ q n)
theorem amS_mul {n : Nat} {q r : Nat → Rat} (n1 : 1 ≤ n) {d : Rat} (hd : 0 < d) (h : ∀ u, u < n → q u = r u * d) : amS q n = amS r n := by
  unfold amS
  rw [mxQ_mul n1 hd h]
  refine List.filter_congr fun u hu => ?_
  have hu := List.mem_range.mp hu
  rw [h u hu]
  by_cases e : r u = mxQ r n
  · rw [decide_eq_true e, decide_eq_true (by rw [e])]
  · rw [decide_eq_false e, decide_eq_false]
    intro z
    exact e (by have : d ≠ 0 := by grind
                grind)
theorem amS_lt {q : Nat → Rat} {n u : Nat} (h : u ∈ amS q n) : u < n := List.mem_range.mp (List.mem_filter.mp h).1
/-- the least of them stands first -/
theorem amS_head {q : Nat → Rat} {n : Nat} (n1 : 1 ≤ n) : ∃ r, amS q n = amQ q n :: r := by
  have a := amQ_is (q := q) n n1
  have e : List.range n = List.range (amQ q n) ++ (amQ q n :: (List.range (n - amQ q n - 1)).map (amQ q n + 1 + ·)) := by
    refine List.ext_getElem (by simp; have := a.lt; omega) fun i h1 h2 => ?_
    rw [List.getElem_range]
    by_cases c1 : i < amQ q n
    · rw [List.getElem_append_left (by simpa using c1), List.getElem_range]
    · rw [List.getElem_append_right (by simp; omega)]
      simp only [List.length_range]
      by_cases c2 : i = amQ q n
      · simp [c2]
      · rw [List.getElem_cons]
        rw [dif_neg (by omega), List.getElem_map, List.getElem_range]
        omega
  unfold amS
  rw [e, List.filter_append, List.filter_cons_of_pos (by simp [mxQ])]
  have z : (List.range (amQ q n)).filter (fun u => decide (q u = mxQ q n)) = [] := by
    refine List.filter_eq_nil_iff.mpr fun u hu => ?_
    have := a.lst u (List.mem_range.mp hu)
    unfold mxQ
    simp only [decide_eq_true_eq]
    intro h
    grind
  rw [z]
  exact ⟨_, rfl⟩
/-- how many courses on have it -/
def cntQ (c : Ch) (n : Nat) : List (Option Nat) → Nat → Nat
  | [], _ => 1
  | o :: v, s => ((amS (fun u => qP c s u * (qT c u o * bstQ c n v u)) n).map (cntQ c n v)).sum
/-- the least one -/
def crsQ (c : Ch) (n : Nat) : List (Option Nat) → (Nat → Rat) → List Nat
  | [], _ => []
  | o :: v, f => amQ (fun u => f u * (qT c u o * bstQ c n v u)) n :: crsQ c n v (qP c (amQ (fun u => f u * (qT c u o * bstQ c n v u)) n))
/-- the greatest chance; how many courses have it -/
def topQ (c : Ch) (n : Nat) : List (Option Nat) → Rat
  | [] => 1
  | o :: v => mxQ (fun u => qS c u * (qT c u o * bstQ c n v u)) n
def topN (c : Ch) (n : Nat) : List (Option Nat) → Nat
  | [] => 1
  | o :: v => ((amS (fun u => qS c u * (qT c u o * bstQ c n v u)) n).map (cntQ c n v)).sum
theorem crsQ_len (c : Ch) (n : Nat) : ∀ (v : List (Option Nat)) (f : Nat → Rat), (crsQ c n v f).length = v.length
  | [], _ => rfl
  | o :: v, f => congrArg (· + 1) (crsQ_len c n v _)
theorem crsQ_lt {c : Ch} {n : Nat} (n1 : 1 ≤ n) : ∀ (v : List (Option Nat)) (f : Nat → Rat), ∀ u ∈ crsQ c n v f, u < n
  | [], _, u, h => by cases h
  | o :: v, f, u, h => by
    rcases List.mem_cons.mp h with rfl | h
    · exact amQ_lt n1
    · exact crsQ_lt n1 v _ u h
/-- another chain of the same shares -/
theorem bstQ_eq {n : Nat} {c c' : Ch} (h : RCr n c c') (z : Nz n c) (z' : Nz n c') (n1 : 1 ≤ n) : ∀ (v : List (Option Nat)) (s : Nat), s < n → bstQ c n v s = bstQ c' n v s
  | [], _, _ => rfl
  | o :: v, s, hs => mxQ_congr n1 fun u hu => by rw [qP_eq h z z' hs u, qT_eq h z z' hu o, bstQ_eq h z z' n1 v u hu]
end VP

/-! VQ27: greatest products of an evened chain -/
namespace VP
open PySem PySem.Spec PyProof.Rows L2 VB VZ VC RT
def evA0 (c : Ch) : Int := (evC c).st.sum
def evA1 (c : Ch) : Int := ((evC c).sp.headD []).sum
def evA2 (c : Ch) (o : Option Nat) : Int := if o = none then 1 else ((evC c).tl.headD []).sum
def evD (c : Ch) (v : List (Option Nat)) : Int := bD (evA1 c) (evA2 c) v
section
variable {e n k : Nat} {c : Ch}
theorem Ew.a2 (h : Ew e n k c) (o : Option Nat) : 0 < evA2 c o := by
  unfold evA2
  split
  · decide
  · exact h.pos.2.2
theorem Ew.dpos (h : Ew e n k c) (v : List (Option Nat)) : 0 < evD c v := bD_pos h.pos.2.1 h.a2 v
theorem Ew.qp (h : Ew e n k c) {s u : Nat} (hs : s < n) (hu : u < n) : (fSp (evC c) s u : Rat) = qP c s u * (evA1 c : Rat) := by
  rw [h.evn.p hs u, qP_eq h.cr (nz_of h.ev) h.nz hs u]
  rfl
theorem Ew.qs (h : Ew e n k c) (u : Nat) : (fSt (evC c) u : Rat) = qS c u * (evA0 c : Rat) := by
  rw [h.evn.s u, qS_eq h.cr (nz_of h.ev) h.nz u]
  rfl
theorem Ew.qt (h : Ew e n k c) {u : Nat} (hu : u < n) (o : Option Nat) : (fTl (evC c) u o : Rat) = qT c u o * (evA2 c o : Rat) := by
  rw [h.evn.t hu o, qT_eq h.cr (nz_of h.ev) h.nz hu o]
  rfl
theorem Ew.bst (h : Ew e n k c) (v : List (Option Nat)) {s : Nat} (hs : s < n) : (bI (fSp (evC c)) (fTl (evC c)) n v s : Rat) = bstQ c n v s * (evD c v : Rat) :=
  bI_q h.n1 h.pos.2.1 h.a2 (fun s u hs hu => h.qp hs hu) v (fun o _ u hu => h.qt hu o) s hs
end
/-- the greatest product with this line ahead -/
def rstQ (c : Ch) (n : Nat) : List (Option Nat) → (Nat → Rat) → Rat
  | [], _ => 1
  | o :: v, f => mxQ (fun u => f u * (qT c u o * bstQ c n v u)) n
theorem bst_rst (c : Ch) (n : Nat) (v : List (Option Nat)) (s : Nat) : bstQ c n v s = rstQ c n v (qP c s) := by cases v <;> rfl
theorem top_rst (c : Ch) (n : Nat) (v : List (Option Nat)) : topQ c n v = rstQ c n v (qS c) := by cases v <;> rfl
/-- one state more: what is taken, what is left -/
theorem rst_cons (c : Ch) (n : Nat) (o : Option Nat) (v : List (Option Nat)) (f : Nat → Rat) : rstQ c n (o :: v) f = f (amQ (fun u => f u * (qT c u o * bstQ c n v u)) n) * (qT c (amQ (fun u => f u * (qT c u o * bstQ c n v u)) n) o * rstQ c n v (qP c (amQ (fun u => f u * (qT c u o * bstQ c n v u)) n))) := by
  rw [← bst_rst]
  rfl
/-- the products of steps, of tells -/
def stpI (A0 A1 : Int) : Nat → Int
  | 0 => 1
  | i + 1 => A0 * A1 ^ i
theorem stpI_succ (A0 A1 : Int) (i : Nat) : stpI A0 A1 (i + 1) = stpI A0 A1 i * (if i = 0 then A0 else A1) := by
  cases i with
  | zero => show A0 * A1 ^ 0 = 1 * _; rw [Int.pow_zero, Int.mul_one, Int.one_mul, if_pos rfl]
  | succ i => show A0 * A1 ^ (i + 1) = A0 * A1 ^ i * _; rw [if_neg (by omega), Int.pow_succ, Int.mul_assoc]
def telI (A2 : Option Nat → Int) : List (Option Nat) → Int
  | [] => 1
  | o :: v => A2 o * telI A2 v
theorem telI_snoc (A2 : Option Nat → Int) (o : Option Nat) : ∀ v, telI A2 (v ++ [o]) = telI A2 v * A2 o
  | [] => by show A2 o * 1 = 1 * A2 o; rw [Int.mul_one, Int.one_mul]
  | x :: v => by show A2 x * telI A2 (v ++ [o]) = A2 x * telI A2 v * A2 o; rw [telI_snoc A2 o v, Int.mul_assoc]
theorem under_split (A0 A1 A2 : Int) : ∀ r : List (Option Nat), underR A0 A1 A2 r = stpI A0 A1 r.length * telI (fun o => if o = none then 1 else A2) r.reverse
  | [] => rfl
  | [o] => by
    show A0 * (if o = none then 1 else A2) = A0 * A1 ^ 0 * ((if o = none then 1 else A2) * 1)
    rw [Int.pow_zero, Int.mul_one, Int.mul_one]
  | o :: o2 :: r => by
    have ih := under_split A0 A1 A2 (o2 :: r)
    rw [List.reverse_cons, telI_snoc, List.length_cons, stpI_succ, if_neg (by simp)]
    have e : underR A0 A1 A2 (o :: o2 :: r) = underR A0 A1 A2 (o2 :: r) * A1 * (if o = none then 1 else A2) := rfl
    rw [e, ih]
    simp only [Int.mul_assoc, Int.mul_comm, Int.mul_left_comm]
/-- the product of tells along a course -/
def telQ (c : Ch) : List Nat → List (Option Nat) → Rat
  | u :: us, o :: os => qT c u o * telQ c us os
  | _, _ => 1
theorem telQ_snoc (c : Ch) (u : Nat) (o : Option Nat) : ∀ (us : List Nat) (os : List (Option Nat)), us.length = os.length → telQ c (us ++ [u]) (os ++ [o]) = telQ c us os * qT c u o
  | [], [], _ => by show qT c u o * 1 = 1 * qT c u o; grind
  | x :: us, y :: os, h => by
    show qT c x y * telQ c (us ++ [u]) (os ++ [o]) = qT c x y * telQ c us os * qT c u o
    rw [telQ_snoc c u o us os (by simpa using h)]
    grind
  | [], _ :: _, h => by simp at h
  | _ :: _, [], h => by simp at h
end VP

/-! VQ28: the best course, state by state -/
namespace VP
open PySem PySem.Spec PyProof.Rows L2 VB VZ VC RT
theorem w_tryO {K : PySem.W.Frag} {C : Value} {pb : (PEnv → Ex → Prop) → PTS} {psu : SuP} {Pn : PEn} {env : PEnv} (h : pb (tryO K C psu Pn) Pn env) : pTryO K C pb psu Pn env := h
theorem w_slipO {K : PySem.W.Frag} {C : Value} {psu : SuP} {Pn : PEn} {env : PEnv} {cls : Value} (tm : PySem.W.exmOne K cls C = some true) (h : ∀ a, psu a cls none Pn env) : tryO K C psu Pn env ⟨cls, none⟩ := ⟨rfl, tm, h⟩
theorem stpI_bd {k : Nat} {A0 A1 : Int} (h0 : Bd k A0) (h1 : Bd k A1) : ∀ i, Bd (k * i + 1) (stpI A0 A1 i)
  | 0 => one_bd (by omega)
  | i + 1 => by
    rw [stpI_succ]
    have ih := stpI_bd h0 h1 i
    have : Bd k (if i = 0 then A0 else A1) := by split; exact h0; exact h1
    refine (ih.mul this).mono ?_
    rw [Nat.mul_succ]
    omega
theorem stpI_pos {A0 A1 : Int} (h0 : 0 < A0) (h1 : 0 < A1) : ∀ i, 0 < stpI A0 A1 i
  | 0 => by show (0 : Int) < 1; decide
  | i + 1 => Int.mul_pos h0 (Int.pow_pos h1)
theorem telI_bd {k : Nat} {A2 : Option Nat → Int} (h : ∀ o, Bd k (A2 o)) : ∀ v : List (Option Nat), Bd (k * v.length + 1) (telI A2 v)
  | [] => one_bd (by omega)
  | o :: v => by
    refine ((h o).mul (telI_bd h v)).mono ?_
    rw [List.length_cons, Nat.mul_succ]
    omega
theorem telI_pos {A2 : Option Nat → Int} (h : ∀ o, 0 < A2 o) : ∀ v : List (Option Nat), 0 < telI A2 v
  | [] => by show (0 : Int) < 1; decide
  | o :: v => Int.mul_pos (h o) (telI_pos h v)
theorem take_at {os : List (Option Nat)} {i : Nat} (hi : i < os.length) : os.take (i + 1) = os.take i ++ [os.getD i none] := by
  rw [List.take_succ, List.getElem?_eq_getElem hi, List.getD_eq_getElem?_getD, List.getElem?_eq_getElem hi]
  rfl
theorem drop_at' {os : List (Option Nat)} {i : Nat} (hi : i < os.length) : os.drop i = os.getD i none :: os.drop (i + 1) := by
  rw [List.drop_eq_getElem_cons hi, List.getD_eq_getElem?_getD, List.getElem?_eq_getElem hi]
  rfl
structure Bp (c : Ch) (e n : Nat) (os : List (Option Nat)) (i : Nat) (us : List Nat) (f : Nat → Int) (lq : Nat → Rat) (wI : Int) (wS : Rat) : Prop where
  len : us.length = i
  crs : crsQ c n os (qS c) = us ++ crsQ c n (os.drop i) lq
  lt : ∀ u ∈ us, u < n
  line : ∀ u, u < n → (f u : Rat) = lq u * ((if i = 0 then evA0 c else evA1 c : Int) : Rat)
  fb : ∀ u, u < n → 0 ≤ f u ∧ Bd e (f u)
  wn : 0 ≤ wI
  wb : Bd (e * i + 1) wI
  wq : (wI : Rat) = wS * (stpI (evA0 c) (evA1 c) i : Rat)
  top : topQ c n os = wS * (telQ c us (os.take i) * rstQ c n (os.drop i) lq)
theorem Bp.step {c : Ch} {e n k : Nat} {os : List (Option Nat)} {i : Nat} {us : List Nat} {f : Nat → Int} {lq : Nat → Rat} {wI : Int} {wS : Rat} (hw : Ew e n k c) (h : Bp c e n os i us f lq wI wS) (hi : i < os.length) (hb : ∀ s u, s < n → u < n → 0 ≤ fSp (evC c) s u ∧ Bd e (fSp (evC c) s u)) {u : Nat}
    (hu : u = amQ (fun u => lq u * (qT c u (os.getD i none) * bstQ c n (os.drop (i + 1)) u)) n) : Bp c e n os (i + 1) (us ++ [u]) (fSp (evC c) u) (qP c u) (wI * f u) (wS * lq u) := by
  have un : u < n := by rw [hu]; exact amQ_lt hw.n1
  have ed := drop_at' hi
  refine ⟨by rw [List.length_append, h.len]; rfl, ?_, fun x hx => ?_, fun x hx => ?_, fun x hx => hb u x un hx, Int.mul_nonneg h.wn (h.fb u un).1, (h.wb.mul (h.fb u un).2).mono (by rw [Nat.mul_succ]; omega), ?_, ?_⟩
  · rw [h.crs, ed, List.append_assoc, hu]
    rfl
  · rcases List.mem_append.mp hx with q | q
    · exact h.lt x q
    · rw [List.mem_singleton.mp q]
      exact un
  · rw [if_neg (by omega), hw.qp un hx]
  · rw [Rat.intCast_mul, h.wq, h.line u un, stpI_succ, Rat.intCast_mul]
    grind
  · rw [h.top, take_at hi, telQ_snoc c u _ us (os.take i) (by rw [h.len, List.length_take]; omega), ed, rst_cons, ← hu]
    grind
theorem Bp.start {c : Ch} {e n k : Nat} {os : List (Option Nat)} (hw : Ew e n k c) (hb : ∀ u, u < n → 0 ≤ fSt (evC c) u ∧ Bd e (fSt (evC c) u)) : Bp c e n os 0 [] (fSt (evC c)) (qS c) 1 1 := by
  refine ⟨rfl, rfl, fun u hu => (by cases hu), fun u _ => ?_, hb, by decide, one_bd (by omega), ?_, ?_⟩
  · rw [if_pos rfl]
    exact hw.qs u
  · show ((1 : Int) : Rat) = 1 * ((1 : Int) : Rat)
    grind
  · rw [List.drop_zero, List.take_zero, top_rst]
    show _ = 1 * (1 * _)
    grind
end VP

/-! VQ29: where all courses have the same chance -/
namespace VP
open PySem PySem.Spec PyProof.Rows L2 VB VZ VC RT
section
variable {n : Nat} {q : Nat → Rat} {r : Rat}
theorem amQ_flat (n1 : 1 ≤ n) (h : ∀ u, u < n → q u = r) : amQ q n = 0 :=
  ((IsAm.eq (n := n) (q := q) (j := 0)) ⟨by omega, fun v hv => by rw [h v hv, h 0 (by omega)]; exact Rat.le_refl, fun i hi => absurd hi (Nat.not_lt_zero i)⟩).symm
theorem mxQ_flat (n1 : 1 ≤ n) (h : ∀ u, u < n → q u = r) : mxQ q n = r := h _ (amQ_lt n1)
theorem amS_flat (n1 : 1 ≤ n) (h : ∀ u, u < n → q u = r) : amS q n = List.range n := by
  unfold amS
  refine List.filter_eq_self.mpr fun u hu => decide_eq_true ?_
  rw [mxQ_flat n1 h, h u (List.mem_range.mp hu)]
end
structure FlatC (c : Ch) (n : Nat) (a : Rat) (t : Option Nat → Rat) : Prop where
  n1 : 1 ≤ n
  p : ∀ s u, s < n → u < n → qP c s u = a
  s : ∀ u, u < n → qS c u = a
  t : ∀ u o, u < n → qT c u o = t o
section
variable {c : Ch} {n : Nat} {a : Rat} {t : Option Nat → Rat}
def flB (a : Rat) (t : Option Nat → Rat) : List (Option Nat) → Rat
  | [] => 1
  | o :: v => a * (t o * flB a t v)
theorem FlatC.bst (h : FlatC c n a t) : ∀ (v : List (Option Nat)) (s : Nat), s < n → bstQ c n v s = flB a t v
  | [], _, _ => rfl
  | o :: v, s, hs => mxQ_flat h.n1 fun u hu => by rw [h.p s u hs hu, h.t u o hu, h.bst v u hu]; rfl
theorem sum_const {f : Nat → Nat} {m : Nat} : ∀ (l : List Nat), (∀ u ∈ l, f u = m) → (l.map f).sum = l.length * m
  | [], _ => by simp
  | x :: l, h => by
    rw [List.map_cons, List.sum_cons, h x (by simp), sum_const l fun u hu => h u (by simp [hu]), List.length_cons, Nat.add_mul]
    omega
theorem FlatC.cnt (h : FlatC c n a t) : ∀ (v : List (Option Nat)) (s : Nat), s < n → cntQ c n v s = n ^ v.length
  | [], _, _ => rfl
  | o :: v, s, hs => by
    show ((amS (fun u => qP c s u * (qT c u o * bstQ c n v u)) n).map (cntQ c n v)).sum = _
    rw [amS_flat h.n1 (r := a * (t o * flB a t v)) fun u hu => by rw [h.p s u hs hu, h.t u o hu, h.bst v u hu], sum_const (m := n ^ v.length) _ fun u hu => h.cnt v u (List.mem_range.mp hu), List.length_range, List.length_cons, Nat.pow_succ, Nat.mul_comm]
theorem FlatC.topN (h : FlatC c n a t) : ∀ (v : List (Option Nat)), topN c n v = n ^ v.length
  | [] => rfl
  | o :: v => by
    show ((amS (fun u => qS c u * (qT c u o * bstQ c n v u)) n).map (cntQ c n v)).sum = _
    rw [amS_flat h.n1 (r := a * (t o * flB a t v)) fun u hu => by rw [h.s u hu, h.t u o hu, h.bst v u hu], sum_const (m := n ^ v.length) _ fun u hu => h.cnt v u (List.mem_range.mp hu), List.length_range, List.length_cons, Nat.pow_succ, Nat.mul_comm]
theorem FlatC.top (h : FlatC c n a t) : ∀ (v : List (Option Nat)), topQ c n v = flB a t v
  | [] => rfl
  | o :: v => by
    show mxQ (fun u => qS c u * (qT c u o * bstQ c n v u)) n = a * (t o * flB a t v)
    exact mxQ_flat h.n1 fun u hu => by rw [h.s u hu, h.t u o hu, h.bst v u hu]
theorem FlatC.crs (h : FlatC c n a t) : ∀ (v : List (Option Nat)) (f : Nat → Rat), (∀ u, u < n → f u = a) → crsQ c n v f = List.replicate v.length 0
  | [], _, _ => rfl
  | o :: v, f, hf => by
    have e : amQ (fun u => f u * (qT c u o * bstQ c n v u)) n = 0 := amQ_flat h.n1 (r := a * (t o * flB a t v)) fun u hu => by rw [hf u hu, h.t u o hu, h.bst v u hu]
    show amQ (fun u => f u * (qT c u o * bstQ c n v u)) n :: crsQ c n v (qP c (amQ (fun u => f u * (qT c u o * bstQ c n v u)) n)) = _
    have n1 := h.n1
    rw [e, h.crs v _ fun u hu => h.p 0 u (by omega) hu, List.length_cons, List.replicate_succ]
theorem flB_ne (ha : a ≠ 0) : ∀ (v : List (Option Nat)), (∀ o ∈ v, t o ≠ 0) → flB a t v ≠ 0
  | [], _ => by show (1 : Rat) ≠ 0; decide
  | o :: v, h => by
    have h1 := flB_ne ha v fun x hx => h x (by simp [hx])
    have h2 := h o (by simp)
    show a * (t o * flB a t v) ≠ 0
    intro z
    rcases Rat.mul_eq_zero.mp z with z | z
    · exact ha z
    · rcases Rat.mul_eq_zero.mp z with z | z
      · exact h2 z
      · exact h1 z
end
/-- two states, all alike -/
def evenCh : Ch := ⟨Str.ofString "ab", [1, 1], [[2, 2], [3, 3]], [[1, 4], [1, 4]]⟩
theorem evenCh_ok : ChOk 3 2 2 evenCh := by
  have L : ∀ x y : Int, 0 ≤ x → 0 < y → x < 8 → y < 8 → Lin 3 2 [x, y] := fun x y hx hy hx8 hy8 => ⟨rfl, fun z hz => by
    simp only [List.mem_cons, List.mem_nil_iff, or_false] at hz
    rcases hz with rfl | rfl
    · exact ⟨by omega, by show z.natAbs < 2 ^ 3; omega⟩
    · exact ⟨by omega, by show z.natAbs < 2 ^ 3; omega⟩, by show 0 < x + (y + 0); omega⟩
  refine ⟨by decide, by decide, by decide, by decide, sgs_ab, L 1 1 (by decide) (by decide) (by decide) (by decide), ⟨rfl, fun l hl => ?_⟩, ⟨rfl, fun l hl => ?_⟩⟩
  · have : l ∈ [[(2 : Int), 2], [3, 3]] := hl
    simp only [List.mem_cons, List.mem_nil_iff, or_false] at this
    rcases this with rfl | rfl
    · exact L 2 2 (by decide) (by decide) (by decide) (by decide)
    · exact L 3 3 (by decide) (by decide) (by decide) (by decide)
  · have : l ∈ [[(1 : Int), 4], [1, 4]] := hl
    simp only [List.mem_cons, List.mem_nil_iff, or_false] at this
    rcases this with rfl | rfl <;> exact L 1 4 (by decide) (by decide) (by decide) (by decide)
theorem evenCh_flat : FlatC evenCh 2 (1 / 2) (fun o => qT evenCh 0 o) := by
  have two : ∀ u, u < 2 → u = 0 ∨ u = 1 := fun u hu => by omega
  refine ⟨by decide, fun s u hs hu => ?_, fun u hu => ?_, fun u o hu => ?_⟩
  · rcases two s hs with rfl | rfl <;> rcases two u hu with rfl | rfl <;> decide +kernel
  · rcases two u hu with rfl | rfl <;> decide +kernel
  · rcases two u hu with rfl | rfl
    · rfl
    · cases o <;> rfl
theorem evenCh_t (o : Option Nat) (h : ∀ j, o = some j → j < 2) : qT evenCh 0 o ≠ 0 := by
  cases o with
  | none => decide +kernel
  | some j =>
    have := h j rfl
    have : j = 0 ∨ j = 1 := by omega
    rcases this with rfl | rfl <;> decide +kernel
theorem evenCh_top (v : List (Option Nat)) (h : ∀ o ∈ v, ∀ j, o = some j → j < 2) : topQ evenCh 2 v ≠ 0 := by
  rw [evenCh_flat.top v]
  exact flB_ne (by decide +kernel) v fun o ho => evenCh_t o (h o ho)
theorem evenCh_crs (v : List (Option Nat)) : crsQ evenCh 2 v (qS evenCh) = List.replicate v.length 0 := evenCh_flat.crs v _ evenCh_flat.s
end VP

/-! VQ30: the best of all courses -/
namespace VP
open PySem PySem.Spec PyProof.Rows L2 VB VZ VC RT
theorem courses_cons (n : Nat) : ∀ L, courses n (L + 1) = (List.range n).flatMap fun u => (courses n L).map (u :: ·)
  | 0 => by
    show ([[]] : List (List Nat)).flatMap (fun c => (List.range n).map fun u => c ++ [u]) = (List.range n).flatMap fun u => [[u]]
    rw [List.flatMap_cons, List.flatMap_nil, List.append_nil]
    show ((List.range n).map fun u => [u]) = _
    induction List.range n with
    | nil => rfl
    | cons a l ih => rw [List.map_cons, List.flatMap_cons, ih]; rfl
  | L + 1 => by
    show (courses n (L + 1)).flatMap (fun c => (List.range n).map fun u => c ++ [u]) = _
    refine Eq.trans (congrArg (fun l => List.flatMap (fun c => (List.range n).map fun u => c ++ [u]) l) (courses_cons n L)) ?_
    show ((List.range n).flatMap fun u => (courses n L).map (u :: ·)).flatMap (fun c => (List.range n).map fun u => c ++ [u]) = _
    rw [List.flatMap_assoc]
    refine congrArg (fun g => List.flatMap g (List.range n)) (funext fun u => ?_)
    show ((courses n L).map (u :: ·)).flatMap (fun c => (List.range n).map fun x => c ++ [x]) = ((courses n L).flatMap fun c => (List.range n).map fun x => c ++ [x]).map (u :: ·)
    rw [List.flatMap_map, List.map_flatMap]
    refine congrArg (fun g => List.flatMap g (courses n L)) (funext fun d => ?_)
    rw [List.map_map]
    rfl
def gQ (c : Ch) (f : Nat → Rat) : List (Option Nat) → List Nat → Rat
  | o :: v, u :: us => f u * (qT c u o * gQ c (qP c u) v us)
  | _, _ => 1
def topF (c : Ch) (n : Nat) (f : Nat → Rat) : List (Option Nat) → Rat
  | [] => 1
  | o :: v => mxQ (fun u => f u * (qT c u o * bstQ c n v u)) n
def cntF (c : Ch) (n : Nat) (f : Nat → Rat) : List (Option Nat) → Nat
  | [] => 1
  | o :: v => ((amS (fun u => f u * (qT c u o * bstQ c n v u)) n).map (cntQ c n v)).sum
theorem topF_q (c : Ch) (n : Nat) (v : List (Option Nat)) : topF c n (qS c) v = topQ c n v := by cases v <;> rfl
theorem topF_p (c : Ch) (n : Nat) (v : List (Option Nat)) (s : Nat) : topF c n (qP c s) v = bstQ c n v s := by cases v <;> rfl
theorem cntF_q (c : Ch) (n : Nat) (v : List (Option Nat)) : cntF c n (qS c) v = topN c n v := by cases v <;> rfl
theorem cntF_p (c : Ch) (n : Nat) (v : List (Option Nat)) (s : Nat) : cntF c n (qP c s) v = cntQ c n v s := by cases v <;> rfl
theorem rat_cancel {a x y : Rat} (h : a ≠ 0) (e : a * x = a * y) : x = y := by grind
theorem flat_cg {α β : Type} {f g : α → List β} : ∀ (l : List α), (∀ a ∈ l, f a = g a) → l.flatMap f = l.flatMap g
  | [], _ => rfl
  | a :: l, h => by rw [List.flatMap_cons, List.flatMap_cons, h a (by simp), flat_cg l fun b hb => h b (by simp [hb])]
theorem flat_fil {α β : Type} {p : α → Bool} {g : α → List β} : ∀ (l : List α), (∀ a ∈ l, p a = false → g a = []) → (l.filter p).flatMap g = l.flatMap g
  | [], _ => rfl
  | a :: l, h => by
    have ih := flat_fil l fun b hb => h b (by simp [hb])
    rw [List.flatMap_cons]
    cases e : p a with
    | true => rw [List.filter_cons_of_pos e, List.flatMap_cons, ih]
    | false => rw [List.filter_cons_of_neg (by rw [e]; decide), ih, h a (by simp) e, List.nil_append]
theorem flat_len {α β : Type} {g : α → List β} {h : α → Nat} : ∀ (l : List α), (∀ a ∈ l, (g a).length = h a) → (l.flatMap g).length = (l.map h).sum
  | [], _ => rfl
  | a :: l, k => by
    rw [List.flatMap_cons, List.length_append, List.map_cons, List.sum_cons, k a (by simp), flat_len l fun b hb => k b (by simp [hb])]
def bsts (c : Ch) (n : Nat) (f : Nat → Rat) (v : List (Option Nat)) : List (List Nat) := (courses n v.length).filter fun us => decide (gQ c f v us = topF c n f v)
theorem bsts_is {c : Ch} {n : Nat} (n1 : 1 ≤ n) (hP : ∀ s u, s < n → u < n → 0 ≤ qP c s u) : ∀ (v : List (Option Nat)) (f : Nat → Rat), (∀ u, u < n → 0 ≤ f u) → (∀ o ∈ v, ∀ u, u < n → 0 ≤ qT c u o) →
    (∀ us ∈ courses n v.length, gQ c f v us ≤ topF c n f v) ∧ 0 ≤ topF c n f v ∧ (topF c n f v ≠ 0 → (bsts c n f v).length = cntF c n f v ∧ ∃ r, bsts c n f v = crsQ c n v f :: r)
  | [], f, _, _ => by
    refine ⟨fun us _ => ?_, by show (0 : Rat) ≤ 1; decide, fun _ => ⟨?_, [], ?_⟩⟩
    · show gQ c f [] us ≤ 1
      unfold gQ
      exact Rat.le_refl
    · rfl
    · rfl
  | o :: v, f, hf, hT => by
    have ih := fun u (hu : u < n) => bsts_is n1 hP v (qP c u) (fun w hw => hP u w hu hw) fun x hx => hT x (by simp [hx])
    have ho := hT o (by simp)
    obtain ⟨q, hq⟩ : ∃ q : Nat → Rat, q = fun u => f u * (qT c u o * bstQ c n v u) := ⟨_, rfl⟩
    have eM : topF c n f (o :: v) = mxQ q n := by rw [hq]; rfl
    have b0 : ∀ u, u < n → 0 ≤ bstQ c n v u := fun u hu => by rw [← topF_p]; exact (ih u hu).2.1
    have le1 : ∀ u, u < n → ∀ us ∈ courses n v.length, f u * (qT c u o * gQ c (qP c u) v us) ≤ q u := fun u hu us hus => by
      have a := (ih u hu).1 us hus
      rw [topF_p] at a
      rw [hq]
      exact Rat.mul_le_mul_of_nonneg_left (Rat.mul_le_mul_of_nonneg_left a (ho u hu)) (hf u hu)
    refine ⟨fun us hus => ?_, ?_, fun ne => ?_⟩
    · rw [List.length_cons, courses_cons] at hus
      obtain ⟨u, hu, hus⟩ := List.mem_flatMap.mp hus
      obtain ⟨us', hus', rfl⟩ := List.mem_map.mp hus
      have hu := List.mem_range.mp hu
      rw [eM]
      exact Rat.le_trans (le1 u hu us' hus') (mxQ_top hu)
    · rw [eM]
      have l := amQ_lt (q := q) n1
      show 0 ≤ q (amQ q n)
      rw [hq] at l ⊢
      exact Rat.mul_nonneg (hf _ l) (Rat.mul_nonneg (ho _ l) (b0 _ l))
    · rw [eM] at ne
      have e1 : bsts c n f (o :: v) = (amS q n).flatMap fun u => (bsts c n (qP c u) v).map (u :: ·) := by
        unfold bsts
        rw [List.length_cons, courses_cons, List.filter_flatMap, eM]
        have inn : ∀ u, u < n → ((courses n v.length).map (u :: ·)).filter (fun us => decide (gQ c f (o :: v) us = mxQ q n)) = if q u = mxQ q n then ((courses n v.length).filter fun us => decide (gQ c (qP c u) v us = topF c n (qP c u) v)).map (u :: ·) else [] := fun u hu => by
          rw [List.filter_map]
          split
          · rename_i e
            refine congrArg (List.map (u :: ·)) (List.filter_congr fun us hus => ?_)
            show decide (f u * (qT c u o * gQ c (qP c u) v us) = mxQ q n) = _
            rw [topF_p, ← e]
            have z : q u ≠ 0 := by rw [e]; exact ne
            have eu : q u = f u * (qT c u o * bstQ c n v u) := by rw [hq]
            rw [eu] at z ⊢
            by_cases k : gQ c (qP c u) v us = bstQ c n v u
            · rw [decide_eq_true k, decide_eq_true (by rw [k])]
            · rw [decide_eq_false k, decide_eq_false]
              intro w
              refine k ?_
              have z1 : f u ≠ 0 := fun h => z (by rw [h, Rat.zero_mul])
              have z2 : qT c u o ≠ 0 := fun h => z (by rw [h, Rat.zero_mul, Rat.mul_zero])
              have w1 := rat_cancel z1 w
              exact rat_cancel z2 w1
          · rename_i e
            have : List.filter ((fun us => decide (gQ c f (o :: v) us = mxQ q n)) ∘ fun x => u :: x) (courses n v.length) = [] := by
              refine List.filter_eq_nil_iff.mpr fun us hus => ?_
              show ¬ (decide (f u * (qT c u o * gQ c (qP c u) v us) = mxQ q n) = true)
              intro w
              have w := of_decide_eq_true w
              have a := le1 u hu us hus
              rw [w] at a
              exact e (Rat.le_antisymm (mxQ_top hu) a)
            rw [this]
            rfl
        rw [flat_cg _ fun u hu => inn u (List.mem_range.mp hu)]
        unfold amS
        rw [← flat_fil (p := fun u => decide (q u = mxQ q n)) (List.range n) fun u hu e => if_neg (of_decide_eq_false e)]
        exact flat_cg _ fun u hu => if_pos (of_decide_eq_true (List.mem_filter.mp hu).2)
      have nz : ∀ u ∈ amS q n, topF c n (qP c u) v ≠ 0 := fun u hu h => by
        have e : q u = mxQ q n := of_decide_eq_true (List.mem_filter.mp hu).2
        have eu : q u = f u * (qT c u o * bstQ c n v u) := by rw [hq]
        rw [topF_p] at h
        exact ne (by rw [← e, eu, h, Rat.mul_zero, Rat.mul_zero])
      have fq : (fun u => f u * (qT c u o * bstQ c n v u)) = q := hq.symm
      rw [e1]
      refine ⟨?_, ?_⟩
      · show _ = ((amS (fun u => f u * (qT c u o * bstQ c n v u)) n).map (cntQ c n v)).sum
        rw [fq]
        refine flat_len _ fun u hu => ?_
        rw [List.length_map, ((ih u (amS_lt hu)).2.2 (nz u hu)).1, cntF_p]
      · show ∃ r, _ = (amQ (fun u => f u * (qT c u o * bstQ c n v u)) n :: crsQ c n v (qP c (amQ (fun u => f u * (qT c u o * bstQ c n v u)) n))) :: r
        rw [fq]
        obtain ⟨r, er⟩ := amS_head (q := q) n1
        have m : amQ q n ∈ amS q n := by rw [er]; simp
        obtain ⟨r2, er2⟩ := ((ih _ (amS_lt m)).2.2 (nz _ m)).2
        rw [er, List.flatMap_cons, er2, List.map_cons, List.cons_append]
        exact ⟨_, rfl⟩
/-- by their weights in whole numbers -/
theorem whole_front (st : Nat → Int) (sp : Nat → Nat → Int) (tl : Nat → Option Nat → Int) (o : Option Nat) (u : Nat) : ∀ (v : List (Option Nat)) (us : List Nat), v.length = us.length → wholeR st sp tl (v ++ [o]) (us ++ [u]) = st u * tl u o * wholeR (sp u) sp tl v us
  | [], [], _ => by show st u * tl u o = st u * tl u o * 1; rw [Int.mul_one]
  | [o1], [u1], _ => by show st u * tl u o * (sp u u1 * tl u1 o1) = st u * tl u o * (sp u u1 * tl u1 o1); rfl
  | o1 :: o2 :: v, u1 :: s :: us, h => by
    have ih := whole_front st sp tl o u (o2 :: v) (s :: us) (by simpa using h)
    show wholeR st sp tl ((o2 :: v) ++ [o]) ((s :: us) ++ [u]) * (sp s u1 * tl u1 o1) = st u * tl u o * (wholeR (sp u) sp tl (o2 :: v) (s :: us) * (sp s u1 * tl u1 o1))
    rw [ih, Int.mul_assoc]
theorem whole_cons (st : Nat → Int) (sp : Nat → Nat → Int) (tl : Nat → Option Nat → Int) (o : Option Nat) (u : Nat) (v : List (Option Nat)) (us : List Nat) (h : v.length = us.length) : wholeR st sp tl (o :: v).reverse (u :: us).reverse = st u * tl u o * wholeR (sp u) sp tl v.reverse us.reverse := by
  rw [List.reverse_cons, List.reverse_cons]
  exact whole_front st sp tl o u _ _ (by rw [List.length_reverse, List.length_reverse, h])
theorem lwO_q {B n k : Nat} {c : Ch} (h : Lw B n k c) : ∀ (v : List (Option Nat)) (us : List Nat) (s : Nat), Okv k v → v.length = us.length → (∀ u ∈ us, u < n) → s < n → (lwO c s v us : Rat) = gQ c (qP c s) v us * (lbW c v.length : Rat)
  | [], [], s, _, _, _, _ => by show ((1 : Int) : Rat) = 1 * (((lcmF 1 c.sp * lcmF 1 c.tl) ^ 0 : Int) : Rat); rw [Int.pow_zero]; grind
  | o :: v, u :: us, s, ho, hl, hu, hs => by
    have hl : v.length = us.length := by simpa using hl
    have u1 := hu u (by simp)
    have ih := lwO_q h v us u (fun x hx => ho x (by simp [hx])) hl (fun x hx => hu x (by simp [hx])) u1
    have e : lwO c s (o :: v) (u :: us) = lP c s u * ltW c u o * lwO c u v us := whole_cons _ _ _ o u v us hl
    rw [e, Rat.intCast_mul, Rat.intCast_mul, ih, show (lP c s u : Rat) = _ from h.p hs u1, h.t u1 (ho o (by simp))]
    show _ = qP c s u * (qT c u o * gQ c (qP c u) v us) * (((lcmF 1 c.sp * lcmF 1 c.tl) ^ (v.length + 1) : Int) : Rat)
    rw [Int.pow_succ, Rat.intCast_mul, Rat.intCast_mul]
    unfold lbW
    grind
theorem gQ_lw {B n k : Nat} {c : Ch} (h : Lw B n k c) : ∀ (os : List (Option Nat)) (us : List Nat), Okv k os → os.length = us.length → (∀ u ∈ us, u < n) → (lwW c os us : Rat) = gQ c (qS c) os us * (lbC c os.length : Rat)
  | [], [], _, _, _ => by show ((1 : Int) : Rat) = 1 * ((1 : Int) : Rat); grind
  | o :: v, u :: us, ho, hl, hu => by
    have hl : v.length = us.length := by simpa using hl
    have u1 := hu u (by simp)
    have ih := lwO_q h v us u (fun x hx => ho x (by simp [hx])) hl (fun x hx => hu x (by simp [hx])) u1
    have e : lwW c (o :: v) (u :: us) = lS c u * ltW c u o * lwO c u v us := whole_cons _ _ _ o u v us hl
    have es : (lS c u : Rat) = qS c u * (c.st.sum : Rat) := h.s u
    rw [e, Rat.intCast_mul, Rat.intCast_mul, ih, es, h.t u1 (ho o (by simp))]
    show _ = qS c u * (qT c u o * gQ c (qP c u) v us) * ((c.st.sum * lcmF 1 c.tl * (lcmF 1 c.sp * lcmF 1 c.tl) ^ v.length : Int) : Rat)
    rw [Rat.intCast_mul, Rat.intCast_mul]
    unfold lbW
    grind
/-- what the law keeps, course by course -/
def tpM (w : List Nat → Int) (l : List (List Nat)) : Int := l.foldl (fun t us => if t < w us then w us else t) 0
def kpM (w : List Nat → Int) (l : List (List Nat)) : List (List Nat) := l.filter fun us => decide (w us = tpM w l ∧ 0 < w us)
section
variable {w : List Nat → Int}
theorem tpM_snoc (l : List (List Nat)) (us : List Nat) : tpM w (l ++ [us]) = if tpM w l < w us then w us else tpM w l := by
  unfold tpM
  rw [List.foldl_append]
  rfl
theorem tpM_nn : ∀ (l : List (List Nat)) , 0 ≤ tpM w l := fun l => by
  have : ∀ (l : List (List Nat)) (t : Int), 0 ≤ t → 0 ≤ l.foldl (fun t us => if t < w us then w us else t) t := fun l => by
    induction l with
    | nil => intro t h; exact h
    | cons a r ih => intro t h; exact ih _ (by show 0 ≤ (if t < w a then w a else t); split <;> omega)
  exact this l 0 (by decide)
theorem fold_top : ∀ (l : List (List Nat)) (t : Int), t ≤ l.foldl (fun t us => if t < w us then w us else t) t ∧ ∀ us ∈ l, w us ≤ l.foldl (fun t us => if t < w us then w us else t) t := fun l => by
  induction l with
  | nil => intro t; exact ⟨Int.le_refl _, fun _ h => nomatch h⟩
  | cons a r ih =>
    intro t
    obtain ⟨h1, h2⟩ := ih (if t < w a then w a else t)
    rw [List.foldl_cons]
    have : t ≤ (if t < w a then w a else t) ∧ w a ≤ (if t < w a then w a else t) := by split <;> omega
    refine ⟨by omega, fun us hus => ?_⟩
    rcases List.mem_cons.mp hus with rfl | hus
    · omega
    · exact h2 us hus
theorem tpM_top {l : List (List Nat)} {us : List Nat} (h : us ∈ l) : w us ≤ tpM w l := (fold_top l 0).2 us h
theorem tpM_le {m : Int} (m0 : 0 ≤ m) : ∀ {l : List (List Nat)}, (∀ us ∈ l, w us ≤ m) → tpM w l ≤ m := fun {l} => by
  have : ∀ (l : List (List Nat)) (t : Int), t ≤ m → (∀ us ∈ l, w us ≤ m) → l.foldl (fun t us => if t < w us then w us else t) t ≤ m := fun l => by
    induction l with
    | nil => intro t h _; exact h
    | cons a r ih =>
      intro t h hl
      exact ih _ (by have := hl a (by simp); show (if t < w a then w a else t) ≤ m; split <;> omega) fun us hus => hl us (by simp [hus])
  exact this l 0 m0
theorem tpM_bd {m : Nat} (m0 : 0 < m) {l : List (List Nat)} (h : ∀ us ∈ l, Bd m (w us)) : Bd m (tpM w l) := by
  have : ∀ (l : List (List Nat)) (t : Int), Bd m t → (∀ us ∈ l, Bd m (w us)) → Bd m (l.foldl (fun t us => if t < w us then w us else t) t) := fun l => by
    induction l with
    | nil => intro t h _; exact h
    | cons a r ih =>
      intro t h hl
      exact ih _ (by have := hl a (by simp); show Bd m (if t < w a then w a else t); split <;> assumption) fun us hus => hl us (by simp [hus])
  exact this l 0 (by show (0 : Int).natAbs < 2 ^ m; exact Nat.two_pow_pos m) h
theorem kpM_snoc (l : List (List Nat)) (us : List Nat) : kpM w (l ++ [us]) = if w us = tpM w (l ++ [us]) ∧ 0 < w us then (if tpM w l < w us then [] else kpM w l) ++ [us] else (if tpM w l < w us then [] else kpM w l) := by
  have one : [us].filter (fun us' => decide (w us' = tpM w (l ++ [us]) ∧ 0 < w us')) = if w us = tpM w (l ++ [us]) ∧ 0 < w us then [us] else [] := by
    by_cases h : w us = tpM w (l ++ [us]) ∧ 0 < w us
    · rw [List.filter_cons, if_pos (decide_eq_true h), if_pos h]; rfl
    · rw [List.filter_cons, if_neg (by rw [decide_eq_false h]; decide), if_neg h]; rfl
  have fst : l.filter (fun us' => decide (w us' = tpM w (l ++ [us]) ∧ 0 < w us')) = if tpM w l < w us then [] else kpM w l := by
    rw [tpM_snoc]
    by_cases h : tpM w l < w us
    · rw [if_pos h, if_pos h]
      refine List.filter_eq_nil_iff.mpr fun x hx => ?_
      have := tpM_top (w := w) hx
      rw [decide_eq_false (by omega)]
      decide
    · rw [if_neg h, if_neg h]
      rfl
  show (l ++ [us]).filter _ = _
  rw [List.filter_append, one, fst]
  by_cases h : w us = tpM w (l ++ [us]) ∧ 0 < w us
  · rw [if_pos h, if_pos h]
  · rw [if_neg h, if_neg h, List.append_nil]
end
/-- all courses of a view -/
theorem all_best {B n k : Nat} {c : Ch} {os : List (Option Nat)} (h : Lw B n k c) (ho : Okv k os) : (tpM (lwW c os) (courses n os.length) : Rat) = topQ c n os * (lbC c os.length : Rat) ∧ (topQ c n os = 0 → kpM (lwW c os) (courses n os.length) = []) ∧
    (topQ c n os ≠ 0 → (kpM (lwW c os) (courses n os.length)).length = topN c n os ∧ ∃ r, kpM (lwW c os) (courses n os.length) = crsQ c n os (qS c) :: r) := by
  have n1 := h.ok.n1
  have hP : ∀ s u, s < n → u < n → 0 ≤ qP c s u := fun s u hs hu => rat_nn (h.pn hs hu).1 h.p1 (h.p hs hu)
  have hS : ∀ u, u < n → 0 ≤ qS c u := fun u hu => rat_nn (h.sn hu).1 h.p0 (h.s u)
  have hT : ∀ o ∈ os, ∀ u, u < n → 0 ≤ qT c u o := fun o hx u hu => rat_nn (h.tn hu (ho o hx)).1 h.p2 (h.t hu (ho o hx))
  obtain ⟨b1, b2, b3⟩ := bsts_is n1 hP os (qS c) hS hT
  rw [topF_q] at b2 b3
  have dp := lbC_pos h os.length
  have dq : (0 : Rat) < (lbC c os.length : Rat) := Rat.intCast_lt_intCast (a := 0).mpr dp
  have w := fun us (hus : us ∈ courses n os.length) => gQ_lw h os us ho (courses_len n os.length us hus).symm fun u hu => courses_lt n os.length us hus u hu
  have e : (tpM (lwW c os) (courses n os.length) : Rat) = topQ c n os * (lbC c os.length : Rat) := by
    by_cases z : topQ c n os = 0
    · rw [z, Rat.zero_mul]
      have a := tpM_le (w := lwW c os) (m := 0) (by decide) (l := courses n os.length) fun us hus => by
        have g := b1 us hus
        rw [topF_q, z] at g
        have := Rat.mul_le_mul_of_nonneg_right g (Rat.le_of_lt dq)
        rw [← w us hus, Rat.zero_mul] at this
        exact Rat.intCast_le_intCast.mp this
      have b := tpM_nn (w := lwW c os) (courses n os.length)
      rw [show tpM (lwW c os) (courses n os.length) = 0 by omega]
      rfl
    · obtain ⟨_, r, er⟩ := b3 z
      have mb : crsQ c n os (qS c) ∈ bsts c n (qS c) os := by rw [er]; simp
      obtain ⟨m1, m2⟩ := List.mem_filter.mp mb
      have m2 := of_decide_eq_true m2
      rw [topF_q] at m2
      have wm := w _ m1
      rw [m2] at wm
      have m0 : 0 ≤ lwW c os (crsQ c n os (qS c)) := by
        refine Rat.intCast_nonneg.mp ?_
        rw [wm]
        exact Rat.mul_nonneg b2 (Rat.le_of_lt dq)
      have a := tpM_le (w := lwW c os) m0 (l := courses n os.length) fun us hus => by
        have g := b1 us hus
        rw [topF_q] at g
        have := Rat.mul_le_mul_of_nonneg_right g (Rat.le_of_lt dq)
        rw [← w us hus, ← wm] at this
        exact Rat.intCast_le_intCast.mp this
      have b := tpM_top (w := lwW c os) m1
      rw [← wm]
      exact congrArg _ (by omega)
  refine ⟨e, fun z => ?_, fun ne => ?_⟩
  · refine List.filter_eq_nil_iff.mpr fun us hus => ?_
    intro q
    obtain ⟨q1, q2⟩ := of_decide_eq_true q
    rw [z, Rat.zero_mul] at e
    have := Rat.intCast_eq_zero_iff.mp e
    omega
  · have ek : kpM (lwW c os) (courses n os.length) = bsts c n (qS c) os := by
      refine List.filter_congr fun us hus => ?_
      rw [topF_q]
      by_cases k : gQ c (qS c) os us = topQ c n os
      · have w1 := w us hus
        rw [k, ← e] at w1
        have w1 := Rat.intCast_inj.mp w1
        rw [decide_eq_true k, decide_eq_true]
        refine ⟨w1, ?_⟩
        have : tpM (lwW c os) (courses n os.length) ≠ 0 := fun z => by
          rw [z] at e
          have e : (0 : Rat) = topQ c n os * (lbC c os.length : Rat) := e
          rcases Rat.mul_eq_zero.mp e.symm with q | q
          · exact ne q
          · grind
        have := tpM_nn (w := lwW c os) (courses n os.length)
        omega
      · rw [decide_eq_false k, decide_eq_false]
        rintro ⟨q, _⟩
        refine k ?_
        have w1 := w us hus
        rw [q, e] at w1
        have d0 : (lbC c os.length : Rat) ≠ 0 := by grind
        grind
    rw [ek, ← cntF_q]
    exact b3 ne
end VP

/-! VQ31: three at once, of which the last is own -/
namespace VP
open PySem PySem.Spec PyProof.Rows L2 VB VZ VC RT
section
variable {b : Bs} {t1 t2 t3 : TE} {p1 p2 : PTE} {p3 : PTL} {i j l : Nat}
def pPar3XXO (i j l : Nat) (p1 p2 : PTE) (p3 : PTL) : PTS := fun Pn env => p1 env fun d => p2 env fun e => p3 env fun fs => Pn.nx (((env.set i d).set j e).set l (.own fs))
theorem ss_par3XXO (h1 : SE b t1 p1) (h2 : SE b t2 p2) (h3 : SF b t3 p3) : SS b (tPar3 i j l (tCons t1 (tCons t2 (tCons t3 tNil)))) (pPar3XXO i j l p1 p2 p3) := fun V W σ env H Dn Pn hR hV hE hp =>
  h1 W σ env H _ _ hR hp fun v d H1 g1 rv q1 => by
    have hR1 := hR.go g1
    refine h2 W σ env H1 _ _ hR1 q1 fun v2 d2 H2 g2 rv2 q2 => ?_
    have hR2 := hR1.go g2
    refine h3 W σ env H2 _ _ hR2 q2 fun c ws fs H3 g3 n3 e3 db q3 => ?_
    have s1 := (((hR1.set (i := i) rv).go g2).set (i := j) rv2)
    obtain ⟨s2, v3⟩ := s1.setOwn (i := l) g3 n3 e3 db
    exact ⟨v, v2, .ref c, rfl, hE.nx _ _ _ H3 s2 (((hV.trans g1.vw).trans g2.vw).trans v3) q3⟩
theorem w_par3XXO {env : PEnv} {Pn : PEn} (h : p1 env fun d => p2 env fun e => p3 env fun fs => Pn.nx (((env.set i d).set j e).set l (.own fs))) : pPar3XXO i j l p1 p2 p3 Pn env := h
variable {X : Cx} {B : Hp} {m0 : Md} {x y z : Str} {a c e : Expr} {px py pz pt pos : Pos}
theorem qs_par3XXO {kt k2 pt2} (hc : X.calm = true) (hN : X.N.Nodup) (hi : X.N[i]? = some x) (hj : X.N[j]? = some y) (hl : X.N[l]? = some z) (hij : i ≠ j) (hil : i ≠ l) (hjl : j ≠ l)
    (hx : X.env.scope.names.lookup x = some .local) (hy : X.env.scope.names.lookup y = some .local) (hz : X.env.scope.names.lookup z = some .local)
    (h1 : QE X B m0 a t1 p1) (h2 : QE X B m0 c t2 p2) (h3 : QF X B m0 e t3 p3)
    (hw : swappedStores [.Tuple [.Name x px, .Name y py, .Name z pz] kt pt] (.Tuple [a, c, e] k2 pt2) X.env = pure (some [x, y, z]))
    (st1 : starEach [a, c, e] X.env = (false, eval a X.env) :: starEach [c, e] X.env := by rfl) (st2 : starEach [c, e] X.env = (false, eval c X.env) :: starEach [e] X.env := by rfl) (st3 : starEach [e] X.env = (false, eval e X.env) :: starEach [] X.env := by rfl)
    (hs : swapsWithSole [.Tuple [.Name x px, .Name y py, .Name z pz] kt pt] (.Tuple [a, c, e] k2 pt2) pos.line X.env = pure false := by rfl) :
    QS X B m0 (.Assign [.Tuple [.Name x px, .Name y py, .Name z pz] kt pt] (.Tuple [a, c, e] k2 pt2) pos) (tPar3 i j l (tCons t1 (tCons t2 (tCons t3 tNil)))) (pPar3XXO i j l p1 p2 p3) := ⟨ps_par3 hc hN hi hj hl hij hil hjl hx hy hz (pa_cons h1.p (pa_cons h2.p (pa_cons h3.p pa_nil st3) st2) st1) hw hs, ss_par3XXO h1.s h2.s h3.s⟩
end
theorem sm_int (i : Int) : Sm 0 (.int i) := ⟨rfl, Nat.le_refl 0, by simp [PyData.eqv]⟩
theorem sm_us (us : List Nat) : Sm 1 (usD us) := sm_tup fun d hd => by
  obtain ⟨u, _, rfl⟩ := List.mem_map.mp hd
  exact sm_int _
theorem sm_uss (l : List (List Nat)) : Sm 2 (.list (l.map usD)) := sm_lst fun d hd => by
  obtain ⟨u, _, rfl⟩ := List.mem_map.mp hd
  exact sm_us u
theorem atI_zero {α : Type} (a : α) (l : List α) : atI (a :: l) 0 = some a := by
  have i : ixN (a :: l).length 0 = some 0 := by
    unfold ixN
    rw [List.length_cons, if_pos (by omega), if_pos (by omega)]
    rfl
  unfold atI
  rw [i]
  rfl
/-- whether a number stands in a tuple of numbers -/
def oInT (neg : Bool) : P2 := fun x y P => ∃ (a : Int) (ns : List Int), x = .py (.int a) ∧ y = .py (.tuple (ns.map PyData.int)) ∧ P (.py (.bool (if neg then !inV (.int a) (ns.map V.int) else inV (.int a) (ns.map V.int))))
theorem flat_ints : ∀ ns : List Int, (ns.map V.int).all flatV = true
  | [] => rfl
  | _ :: r => by rw [List.map_cons, List.all_cons, flat_ints r]; rfl
theorem so_in {K : PySem.W.Frag} {neg : Bool} : SO K (rIn K neg) (oInT neg) := so_flat fun m H x y dx dy Q P ho rx ry q k => by
  obtain ⟨a, ns, rfl, rfl, h⟩ := q
  cases rx.dp
  obtain ⟨p1, xs, rfl, e1, a1⟩ := dq_tup ry.dp
  rw [dqa_ints_inv a1] at e1
  exact ⟨p1, _, rfl, .inr (seqT_same vw_sub e1), rfl, flat_ints ns, k _ _ (rdp (.bl _)) h⟩
end VP

/-! VR1: best courses where a state may be asked at a place -/
namespace VP
open PySem PySem.Spec PyProof.Rows L2 VB VZ VC RT
/-- what a view tells at a place, and the state that is asked there -/
abbrev Bnt := Option Nat × Option Nat
def okM (o : Bnt) (u : Nat) : Bool := match o.2 with
  | none => true
  | some s => u == s
def qTm (c : Ch) (u : Nat) (o : Bnt) : Rat := if okM o u = true then qT c u o.1 else 0
def fTlm (c : Ch) (u : Nat) (o : Bnt) : Int := if okM o u = true then fTl c u o.1 else 0
def evA2m (c : Ch) (o : Bnt) : Int := evA2 c o.1
theorem qTm_eq {n : Nat} {c c' : Ch} (h : RCr n c c') (z : Nz n c) (z' : Nz n c') {u : Nat} (hu : u < n) (o : Bnt) : qTm c u o = qTm c' u o := by
  unfold qTm
  rw [qT_eq h z z' hu o.1]
def bstQM (c : Ch) (n : Nat) : List (Bnt) → Nat → Rat
  | [], _ => 1
  | o :: v, s => mxQ (fun u => qP c s u * (qTm c u o * bstQM c n v u)) n
def bIM (P : Nat → Nat → Int) (T : Nat → Bnt → Int) (n : Nat) : List (Bnt) → Nat → Int
  | [], _ => 1
  | o :: v, s => mxI (fun u => P s u * (T u o * bIM P T n v u)) n
def bDM (A1 : Int) (A2 : Bnt → Int) : List (Bnt) → Int
  | [] => 1
  | o :: v => A1 * (A2 o * bDM A1 A2 v)
section
variable {c : Ch} {n : Nat} {P : Nat → Nat → Int} {T : Nat → Bnt → Int} {A1 : Int} {A2 : Bnt → Int}
theorem bD_posM (h1 : 0 < A1) (h2 : ∀ o, 0 < A2 o) : ∀ v, 0 < bDM A1 A2 v
  | [] => by show (0 : Int) < 1; decide
  | o :: v => Int.mul_pos h1 (Int.mul_pos (h2 o) (bD_posM h1 h2 v))
theorem bI_qM (n1 : 1 ≤ n) (h1 : 0 < A1) (h2 : ∀ o, 0 < A2 o) (hP : ∀ s u, s < n → u < n → (P s u : Rat) = qP c s u * (A1 : Rat)) : ∀ (v : List (Bnt)), (∀ o ∈ v, ∀ u, u < n → (T u o : Rat) = qTm c u o * (A2 o : Rat)) → ∀ s, s < n → (bIM P T n v s : Rat) = bstQM c n v s * (bDM A1 A2 v : Rat)
  | [], _, s, _ => by
    show ((1 : Int) : Rat) = 1 * ((1 : Int) : Rat)
    rw [Rat.one_mul]
  | o :: v, hT, s, hs => by
    show (mxI (fun u => P s u * (T u o * bIM P T n v u)) n : Rat) = mxQ (fun u => qP c s u * (qTm c u o * bstQM c n v u)) n * ((A1 * (A2 o * bDM A1 A2 v) : Int) : Rat)
    rw [mxI_cast]
    refine mxQ_mul n1 (Rat.intCast_lt_intCast (a := 0).mpr (bD_posM h1 h2 (o :: v))) fun u hu => ?_
    rw [Rat.intCast_mul, Rat.intCast_mul, hP s u hs hu, hT o (by simp) u hu, bI_qM n1 h1 h2 hP v (fun o ho => hT o (by simp [ho])) u hu, Rat.intCast_mul, Rat.intCast_mul]
    grind
theorem bI_bdM {e : Nat} (n1 : 1 ≤ n) (hP : ∀ s u, s < n → u < n → 0 ≤ P s u ∧ Bd e (P s u)) : ∀ (v : List (Bnt)), (∀ o ∈ v, ∀ u, u < n → 0 ≤ T u o ∧ Bd e (T u o)) → ∀ s, s < n → 0 ≤ bIM P T n v s ∧ Bd (2 * e * v.length + 1) (bIM P T n v s)
  | [], _, s, _ => ⟨by show (0 : Int) ≤ 1; decide, one_bd (by omega)⟩
  | o :: v, hT, s, hs => by
    refine mxI_mem (p := fun x => 0 ≤ x ∧ Bd (2 * e * (o :: v).length + 1) x) n1 fun u hu => ?_
    obtain ⟨a1, a2⟩ := bI_bdM n1 hP v (fun o ho => hT o (by simp [ho])) u hu
    obtain ⟨b1, b2⟩ := hP s u hs hu
    obtain ⟨c1, c2⟩ := hT o (by simp) u hu
    refine ⟨Int.mul_nonneg b1 (Int.mul_nonneg c1 a1), (b2.mul (c2.mul a2)).mono ?_⟩
    have : 2 * e * (o :: v).length = 2 * e * v.length + 2 * e := by rw [List.length_cons, Nat.mul_succ]
    omega
end
def cntQM (c : Ch) (n : Nat) : List (Bnt) → Nat → Nat
  | [], _ => 1
  | o :: v, s => ((amS (fun u => qP c s u * (qTm c u o * bstQM c n v u)) n).map (cntQM c n v)).sum
def crsQM (c : Ch) (n : Nat) : List (Bnt) → (Nat → Rat) → List Nat
  | [], _ => []
  | o :: v, f => amQ (fun u => f u * (qTm c u o * bstQM c n v u)) n :: crsQM c n v (qP c (amQ (fun u => f u * (qTm c u o * bstQM c n v u)) n))
def topQM (c : Ch) (n : Nat) : List (Bnt) → Rat
  | [] => 1
  | o :: v => mxQ (fun u => qS c u * (qTm c u o * bstQM c n v u)) n
def topNM (c : Ch) (n : Nat) : List (Bnt) → Nat
  | [] => 1
  | o :: v => ((amS (fun u => qS c u * (qTm c u o * bstQM c n v u)) n).map (cntQM c n v)).sum
theorem crsQ_lenM (c : Ch) (n : Nat) : ∀ (v : List (Bnt)) (f : Nat → Rat), (crsQM c n v f).length = v.length
  | [], _ => rfl
  | o :: v, f => congrArg (· + 1) (crsQ_lenM c n v _)
theorem crsQ_ltM {c : Ch} {n : Nat} (n1 : 1 ≤ n) : ∀ (v : List (Bnt)) (f : Nat → Rat), ∀ u ∈ crsQM c n v f, u < n
  | [], _, u, h => by cases h
  | o :: v, f, u, h => by
    rcases List.mem_cons.mp h with rfl | h
    · exact amQ_lt n1
    · exact crsQ_ltM n1 v _ u h
theorem bstQ_eqM {n : Nat} {c c' : Ch} (h : RCr n c c') (z : Nz n c) (z' : Nz n c') (n1 : 1 ≤ n) : ∀ (v : List (Bnt)) (s : Nat), s < n → bstQM c n v s = bstQM c' n v s
  | [], _, _ => rfl
  | o :: v, s, hs => mxQ_congr n1 fun u hu => by rw [qP_eq h z z' hs u, qTm_eq h z z' hu o, bstQ_eqM h z z' n1 v u hu]
def evDM (c : Ch) (v : List (Bnt)) : Int := bDM (evA1 c) (evA2m c) v
section
variable {e n k : Nat} {c : Ch}
theorem Ew.dposM (h : Ew e n k c) (v : List (Bnt)) : 0 < evDM c v := bD_posM h.pos.2.1 (fun o => h.a2 o.1) v
theorem Ew.qtM (h : Ew e n k c) {u : Nat} (hu : u < n) (o : Bnt) : (fTlm (evC c) u o : Rat) = qTm c u o * (evA2m c o : Rat) := by
  unfold fTlm qTm evA2m
  split
  · exact h.qt hu o.1
  · show ((0 : Int) : Rat) = 0 * _
    grind
theorem Ew.bstM (h : Ew e n k c) (v : List (Bnt)) {s : Nat} (hs : s < n) : (bIM (fSp (evC c)) (fTlm (evC c)) n v s : Rat) = bstQM c n v s * (evDM c v : Rat) :=
  bI_qM h.n1 h.pos.2.1 (fun o => h.a2 o.1) (fun s u hs hu => h.qp hs hu) v (fun o _ u hu => h.qtM hu o) s hs
end
def rstQM (c : Ch) (n : Nat) : List (Bnt) → (Nat → Rat) → Rat
  | [], _ => 1
  | o :: v, f => mxQ (fun u => f u * (qTm c u o * bstQM c n v u)) n
theorem bst_rstM (c : Ch) (n : Nat) (v : List (Bnt)) (s : Nat) : bstQM c n v s = rstQM c n v (qP c s) := by cases v <;> rfl
theorem top_rstM (c : Ch) (n : Nat) (v : List (Bnt)) : topQM c n v = rstQM c n v (qS c) := by cases v <;> rfl
theorem rst_consM (c : Ch) (n : Nat) (o : Bnt) (v : List (Bnt)) (f : Nat → Rat) : rstQM c n (o :: v) f = f (amQ (fun u => f u * (qTm c u o * bstQM c n v u)) n) * (qTm c (amQ (fun u => f u * (qTm c u o * bstQM c n v u)) n) o * rstQM c n v (qP c (amQ (fun u => f u * (qTm c u o * bstQM c n v u)) n))) := by
  rw [← bst_rstM]
  rfl
def telIM (A2 : Bnt → Int) : List (Bnt) → Int
  | [] => 1
  | o :: v => A2 o * telIM A2 v
theorem telI_snocM (A2 : Bnt → Int) (o : Bnt) : ∀ v, telIM A2 (v ++ [o]) = telIM A2 v * A2 o
  | [] => by show A2 o * 1 = 1 * A2 o; rw [Int.mul_one, Int.one_mul]
  | x :: v => by show A2 x * telIM A2 (v ++ [o]) = A2 x * telIM A2 v * A2 o; rw [telI_snocM A2 o v, Int.mul_assoc]
def telQM (c : Ch) : List Nat → List (Bnt) → Rat
  | u :: us, o :: os => qTm c u o * telQM c us os
  | _, _ => 1
theorem telQ_snocM (c : Ch) (u : Nat) (o : Bnt) : ∀ (us : List Nat) (os : List (Bnt)), us.length = os.length → telQM c (us ++ [u]) (os ++ [o]) = telQM c us os * qTm c u o
  | [], [], _ => by show qTm c u o * 1 = 1 * qTm c u o; grind
  | x :: us, y :: os, h => by
    show qTm c x y * telQM c (us ++ [u]) (os ++ [o]) = qTm c x y * telQM c us os * qTm c u o
    rw [telQ_snocM c u o us os (by simpa using h)]
    grind
  | [], _ :: _, h => by simp at h
  | _ :: _, [], h => by simp at h
theorem telI_bdM {k : Nat} {A2 : Bnt → Int} (h : ∀ o, Bd k (A2 o)) : ∀ v : List (Bnt), Bd (k * v.length + 1) (telIM A2 v)
  | [] => one_bd (by omega)
  | o :: v => by
    refine ((h o).mul (telI_bdM h v)).mono ?_
    rw [List.length_cons, Nat.mul_succ]
    omega
theorem telI_posM {A2 : Bnt → Int} (h : ∀ o, 0 < A2 o) : ∀ v : List (Bnt), 0 < telIM A2 v
  | [] => by show (0 : Int) < 1; decide
  | o :: v => Int.mul_pos (h o) (telI_posM h v)
theorem take_atM {os : List (Bnt)} {i : Nat} (hi : i < os.length) : os.take (i + 1) = os.take i ++ [os.getD i (none, none)] := by
  rw [List.take_succ, List.getElem?_eq_getElem hi, List.getD_eq_getElem?_getD, List.getElem?_eq_getElem hi]
  rfl
theorem drop_at'M {os : List (Bnt)} {i : Nat} (hi : i < os.length) : os.drop i = os.getD i (none, none) :: os.drop (i + 1) := by
  rw [List.drop_eq_getElem_cons hi, List.getD_eq_getElem?_getD, List.getElem?_eq_getElem hi]
  rfl
structure BpM (c : Ch) (e n : Nat) (os : List (Bnt)) (i : Nat) (us : List Nat) (f : Nat → Int) (lq : Nat → Rat) (wI : Int) (wS : Rat) : Prop where
  len : us.length = i
  crs : crsQM c n os (qS c) = us ++ crsQM c n (os.drop i) lq
  lt : ∀ u ∈ us, u < n
  line : ∀ u, u < n → (f u : Rat) = lq u * ((if i = 0 then evA0 c else evA1 c : Int) : Rat)
  fb : ∀ u, u < n → 0 ≤ f u ∧ Bd e (f u)
  wn : 0 ≤ wI
  wb : Bd (e * i + 1) wI
  wq : (wI : Rat) = wS * (stpI (evA0 c) (evA1 c) i : Rat)
  top : topQM c n os = wS * (telQM c us (os.take i) * rstQM c n (os.drop i) lq)
theorem BpM.step {c : Ch} {e n k : Nat} {os : List (Bnt)} {i : Nat} {us : List Nat} {f : Nat → Int} {lq : Nat → Rat} {wI : Int} {wS : Rat} (hw : Ew e n k c) (h : BpM c e n os i us f lq wI wS) (hi : i < os.length) (hb : ∀ s u, s < n → u < n → 0 ≤ fSp (evC c) s u ∧ Bd e (fSp (evC c) s u)) {u : Nat}
    (hu : u = amQ (fun u => lq u * (qTm c u (os.getD i (none, none)) * bstQM c n (os.drop (i + 1)) u)) n) : BpM c e n os (i + 1) (us ++ [u]) (fSp (evC c) u) (qP c u) (wI * f u) (wS * lq u) := by
  have un : u < n := by rw [hu]; exact amQ_lt hw.n1
  have ed := drop_at'M hi
  refine ⟨by rw [List.length_append, h.len]; rfl, ?_, fun x hx => ?_, fun x hx => ?_, fun x hx => hb u x un hx, Int.mul_nonneg h.wn (h.fb u un).1, (h.wb.mul (h.fb u un).2).mono (by rw [Nat.mul_succ]; omega), ?_, ?_⟩
  · rw [h.crs, ed, List.append_assoc, hu]
    rfl
  · rcases List.mem_append.mp hx with q | q
    · exact h.lt x q
    · rw [List.mem_singleton.mp q]
      exact un
  · rw [if_neg (by omega), hw.qp un hx]
  · rw [Rat.intCast_mul, h.wq, h.line u un, stpI_succ, Rat.intCast_mul]
    grind
  · rw [h.top, take_atM hi, telQ_snocM c u _ us (os.take i) (by rw [h.len, List.length_take]; omega), ed, rst_consM, ← hu]
    grind
theorem BpM.start {c : Ch} {e n k : Nat} {os : List (Bnt)} (hw : Ew e n k c) (hb : ∀ u, u < n → 0 ≤ fSt (evC c) u ∧ Bd e (fSt (evC c) u)) : BpM c e n os 0 [] (fSt (evC c)) (qS c) 1 1 := by
  refine ⟨rfl, rfl, fun u hu => (by cases hu), fun u _ => ?_, hb, by decide, one_bd (by omega), ?_, ?_⟩
  · rw [if_pos rfl]
    exact hw.qs u
  · show ((1 : Int) : Rat) = 1 * ((1 : Int) : Rat)
    grind
  · rw [List.drop_zero, List.take_zero, top_rstM]
    show _ = 1 * (1 * _)
    grind
end VP

/-! VR2: defs that hand back a new list -/
namespace VP
open PySem PySem.Spec PyProof.Rows L2 VB VZ VC RT
def hd1 (p : Addr) (H : Hp) : Hp := fun a => if a = p then none else H a
theorem hd1_same {p : Addr} {H H' : Hp} (h : Same H H') : Same (hd1 p H) (hd1 p H') := fun b x e => by
  unfold hd1 at e ⊢
  split at e
  · cases e
  · rename_i z
    rw [if_neg z]
    exact h b x e
def Rf (B : Hp) (K : PySem.W.Frag) (ds : List PyData) (v : V) (Hv : Hp) : Prop := ∃ p xs, v = .ref p ∧ B p = none ∧ Hv p = some (.lst xs) ∧ DqAll K (hd1 p Hv) xs ds
theorem Rf.mono {B : Hp} {K : PySem.W.Frag} {ds : List PyData} (v : V) (H H' : Hp) (e : Same H H') (h : Rf B K ds v H) : Rf B K ds v H' := by
  obtain ⟨p, xs, h1, h2, h3, h4⟩ := h
  exact ⟨p, xs, h1, h2, e _ _ h3, h4.mv (hd1_same e)⟩
def fzD (B : Hp) (K : PySem.W.Frag) (ds : List PyData) : D := .ext (Rf B K ds) Rf.mono
def pRetO (B : Hp) (K : PySem.W.Frag) (i : Nat) : PTS := fun Pn env => ∃ ds, env[i]? = some (.own ds) ∧ Pn.rt (fzD B K ds)
theorem ss_retO {b : Bs} {i : Nat} : SS b (tRet (tVar i)) (pRetO b.B b.K i) := fun V W σ env H Dn Pn hR hV hE hp => by
  obtain ⟨ds, e, q⟩ := hp
  obtain ⟨a, vs, ea, hs, hx, hv, da⟩ := hR.ownAt e
  obtain ⟨o1, o2, o3, o4⟩ := hR.own i a ea
  obtain ⟨a', vs', ea', hv', r, _, _, _⟩ := hR.freeze e
  rw [ea] at ea'
  cases ea'
  rw [hv] at hv'
  cases hv'
  have va : VC.vw (Md.del W.m a) H a = some (.lst vs) := by
    rw [vw_get (m := Md.del W.m a) (fun z => by simp [Md.del] at z) o2]
    exact hv
  have sm : Same (VC.vw W.m H) (hd1 a (VC.vw (Md.del W.m a) H)) := fun c x e => by
    have hc : c ≠ a := fun z => (vw_some e).1 (z ▸ hx)
    unfold hd1
    rw [if_neg hc]
    exact vw_del c x e
  exact ⟨.ref a, hs, hE.rt _ σ _ H (.ref a) (fzD b.B b.K ds) r ⟨a, vs, rfl, o1, va, da.mv sm⟩ q⟩
theorem qs_retO {X : Cx} {B : Hp} {m0 : Md} {x : Str} {pos ps : Pos} (i : Nat) (hN : X.N[i]? = some x := by rfl) (hv : Vis X.env.scope x := by first | exact .inl rfl | exact .inr (.inl rfl) | exact .inr (.inr rfl) | assumption) (hd : (x == ("__debug__" : Str)) = false := by decide) (hcd : (x == ("__classdict__" : Str)) = false := by decide) :
    QS X B m0 (.Return (some (.Name x ps)) pos) (tRet (tVar i)) (pRetO B X.K i) := ⟨ps_ret (pe_var hN hv hd hcd), ss_retO (b := bs X B m0)⟩
theorem w_retO {B : Hp} {K : PySem.W.Frag} {i : Nat} {Pn : PEn} {env : PEnv} {ds : List PyData} (e : env[i]? = some (.own ds)) (h : Pn.rt (fzD B K ds)) : pRetO B K i Pn env := ⟨ds, e, h⟩
abbrev PSpF := List D → (List PyData → Prop) → (Ex → Prop) → Prop
def spF (K : PySem.W.Frag) (ps : PSpF) : Sp := fun vs H Q E => ∃ (m : Md) (ds : List D) (P : List PyData → Prop) (XX : Ex → Prop), Ok m H ∧ RDs K m H vs ds ∧ ps ds P XX ∧
  (∀ p xs es H', Go m H H' → H p = none → H' p = some (.lst xs) → DqAll K (vw (m.add p) H') xs es → P es → Q (.ref p) H') ∧ ∀ e cls dx H', Go m H H' → XR K m H' cls dx e → XX e → E cls dx H'
theorem spF_of {K : PySem.W.Frag} {ps : PSp} {pf : PSpF} (h : ∀ ds P X, ps ds P X → pf ds (fun es => P (.py (.list es))) X) {vs : List V} {H : Hp} {Q : VK} {E : XK} (g : spP K ps vs H Q E) : spF K pf vs H Q E := by
  obtain ⟨m, ds, P, XX, ok, rd, q, hQ, hE⟩ := g
  refine ⟨m, ds, _, XX, ok, rd, h _ _ _ q, fun p xs es H' g hn hv da pp => ?_, hE⟩
  have st : Same (vw (m.add p) H') (vw m H') := vw_addsub
  have va : vw m H' p = some (.lst xs) := by rw [vw_get (ok.nex hn) (ok.off hn)]; exact hv
  exact hQ _ _ H' g (rdp (.lst va (da.mv st))) pp
def pFnF (ps : PSpF) (XE : PEnv → Ex → Prop) (pa : PTA) : PTL := fun env P => pa env fun ds => ps ds P (XE env)
theorem sf_fn {b : Bs} {ps : PSpF} {E : L2.St → XK} {XE : PEnv → Ex → Prop} {tA : TA} {pA : PTA} (lk : LkX b E XE) (h : SA b tA pA) : SF b (tCallS (spF b.K ps) E tA) (pFnF ps XE pA) := fun W σ env H Q P hR hp k =>
  h W σ env H _ _ hR hp fun vs ds H1 g1 r1 q1 => ⟨W.m, ds, P, XE env, g1.ok, r1, q1, fun p xs es H' g hn hv da pp => k p xs es H' (g1.trans g) (g1.free hn) hv da pp, fun e cls dx H' g x q => lk W σ env H' cls dx e (hR.go (g1.trans g)) x q⟩
theorem qf_c {X : Cx} {B : Hp} {m0 : Md} {k : Nat} {st : Stmt} {prs : List Str} {ps : PSpF} {E : L2.St → XK} {XE : PEnv → Ex → Prop} {x : Str} {p pos : Pos} {e : Expr} {es : List Expr} {tA : TA} {pA : PTA}
    {K' : PySem.W.Frag} (c : FnAt X.prog X.w X.K X.mg X.base st k x prs (spF K' ps)) (gu : Gu X.base X.A) (hr : Room k X.A) (hx : ∀ σ, PassesAt (L2.CX X.prog X.w) X σ (E σ)) (lk : LkX (bs X B m0) E XE) (ha : QA X B m0 (e :: es) tA pA)
    (hg : Gl X x := by rfl) (hdb : (x == ("__debug__" : Str)) = false := by decide) (he : starEach (e :: es) X.env = (false, eval e X.env) :: starEach es X.env := by rfl)
    (hpl : (backTo pos (starEach es X.env)).any (·.1) = false := by rfl) (hK : X.K = K' := by rfl) : QF X B m0 (.Call (.Name x p) (e :: es) [] pos) (tCallS (spF K' ps) E tA) (pFnF ps XE pA) := by
  subst hK
  exact ⟨pe_c c gu hr hx ha.p hg hdb he hpl, sf_fn (b := bs X B m0) lk ha.s⟩
theorem w_fnF {ps : PSpF} {XE : PEnv → Ex → Prop} {pa : PTA} {env : PEnv} {P : List PyData → Prop} (h : pa env fun ds => ps ds P (XE env)) : pFnF ps XE pa env P := h
theorem okF {P : Program} {w : World} {K : PySem.W.Frag} {mg : Str → Option Value} {base : Heap} {x : Str} {st : Stmt} {f : Addr} {fd : FuncData} {N prs : List Str} {k : Nat} {ps : PSpF}
    (F : Fun K x x st f fd) (S : FnScope N prs (defScope st)) (hlen : ∀ ds PP XX, ps ds PP XX → ds.length = prs.length)
    (hbody : ∀ (cdv : Value) (A : Around) (out : List Env) (s : Shared) (H : Hp) (E : XK) (B : Hp) (m0 : Md) (XX : Ex → Prop),
      Gu base (A.deeper (envOfC x (defScope st) s.heap.objs.size f cdv)) → Room k (A.deeper (envOfC x (defScope st) s.heap.objs.size f cdv)) →
      LkX ⟨K, B, m0⟩ (fun _ => E) (fun _ => XX) →
      ∃ t p, QSs (cxOf (L2.CX P w) P w K mg base N x (defScope st) f cdv A out s H E) B m0 (defBody st) t p ∧ ∀ ds PP, ps ds PP XX → p { nx := fun _ => False, rt := fun d => ∃ es, d = fzD B K es ∧ PP es } (startE N ds)) :
    FG P w K mg base (k + 1) f fd prs (spF K ps) := by
  refine okX F S (fun vs H Q E h => ?_) (fun cdv A out s H vs Q E gu hr h => ?_)
  · obtain ⟨m, ds, PP, XX, ok, rd, hp, _⟩ := h
    rw [rd.len]
    exact hlen ds PP XX hp
  · obtain ⟨m, ds, PP, XX, ok, rd, hp, hQ, hE⟩ := h
    have toGo : ∀ {W : Wd} {σ : L2.St} {env : PEnv} {H' : Hp}, Rl ⟨K, vd m.dk H, m⟩ W σ env H' → Go m H H' := fun {W σ env H'} r => by
      refine ⟨r.ok0, fun a o e => ?_⟩
      have := r.same a o e
      rw [vd_off (m := m) (vd_some e)]
      exact this
    obtain ⟨t, p, q, h⟩ := hbody cdv A out s H E (vd m.dk H) m XX gu hr (fun W σ env H' cls d e r x q => hE e cls d H' (toGo r) (by
      obtain ⟨x1, x2⟩ := x
      refine ⟨x1, ?_⟩
      cases hf : e.fld with
      | none => rw [hf] at x2; exact x2
      | some fp =>
        rw [hf] at x2
        obtain ⟨a, v, y1, y2, y3⟩ := x2
        exact ⟨a, v, y1, y2, (r.out (rdp y3)).dp⟩) q)
    refine ⟨t, q.p, ?_⟩
    have hl : vs.length = ds.length := rd.len
    have R0 : Rl ⟨K, vd m.dk H, m⟩ ⟨m, fun _ => none⟩ (L2.start N vs) (startE N ds) H :=
      ⟨ok, rfl, fun a h => h, vd_sub, fun a o e => vd_some e, (fun _ h => .inl h), (fun i a e => nomatch (show (none : Option Addr) = some a from e)), (fun i j a e => nomatch (show (none : Option Addr) = some a from e)), (by
        show (vs.map some ++ List.replicate (N.length - vs.length) none).length = _
        unfold startE
        rw [List.length_append, List.length_append, List.length_map, List.length_replicate, List.length_replicate, hl]), (fun i d e => by
        have := sl_start N rd (N.length - ds.length) i d e
        show ∃ o, (vs.map some ++ List.replicate (N.length - vs.length) none)[i]? = some o ∧ _
        rw [hl]
        exact this)⟩
    refine q.s (fun _ => none) ⟨m, fun _ => none⟩ _ _ H _ { nx := fun _ => False, rt := fun d => ∃ es, d = fzD (vd m.dk H) K es ∧ PP es } R0 (fun a o e => by cases e)
      ⟨fun W σ env H' r _ pp => (show False from pp).elim, fun _ _ _ _ _ _ z => (show False from z).elim, fun _ _ _ _ _ _ z => (show False from z).elim, fun W σ env H' v d r rv pp => ?_⟩ (h ds PP hp)
    obtain ⟨es, rfl, pp⟩ := pp
    have ro : RD K m H' v (fzD (vd m.dk H) K es) := r.out rv
    obtain ⟨a, xs, rfl, ha, hv, da⟩ := ro
    obtain ⟨a1, a2, a3⟩ := vw_some hv
    refine hQ a xs es H' (toGo r) (by rw [vd_off a2] at ha; exact ha) a3 (da.mv fun c o e => ?_) pp
    unfold hd1 at e
    split at e
    · cases e
    · rename_i z
      obtain ⟨c1, c2, c3⟩ := vw_some e
      rw [vw_get (m := m.add a) (fun h => (List.mem_cons.mp h).elim z c1) c2]
      exact c3
end VP

/-! VR3: the best of all courses that have a state at a place -/
namespace VP
open PySem PySem.Spec PyProof.Rows L2 VB VZ VC RT
def gQM (c : Ch) (f : Nat → Rat) : List (Bnt) → List Nat → Rat
  | o :: v, u :: us => f u * (qTm c u o * gQM c (qP c u) v us)
  | _, _ => 1
def topFM (c : Ch) (n : Nat) (f : Nat → Rat) : List (Bnt) → Rat
  | [] => 1
  | o :: v => mxQ (fun u => f u * (qTm c u o * bstQM c n v u)) n
def cntFM (c : Ch) (n : Nat) (f : Nat → Rat) : List (Bnt) → Nat
  | [] => 1
  | o :: v => ((amS (fun u => f u * (qTm c u o * bstQM c n v u)) n).map (cntQM c n v)).sum
theorem topF_qM (c : Ch) (n : Nat) (v : List (Bnt)) : topFM c n (qS c) v = topQM c n v := by cases v <;> rfl
theorem topF_pM (c : Ch) (n : Nat) (v : List (Bnt)) (s : Nat) : topFM c n (qP c s) v = bstQM c n v s := by cases v <;> rfl
theorem cntF_qM (c : Ch) (n : Nat) (v : List (Bnt)) : cntFM c n (qS c) v = topNM c n v := by cases v <;> rfl
theorem cntF_pM (c : Ch) (n : Nat) (v : List (Bnt)) (s : Nat) : cntFM c n (qP c s) v = cntQM c n v s := by cases v <;> rfl
def bstsM (c : Ch) (n : Nat) (f : Nat → Rat) (v : List (Bnt)) : List (List Nat) := (courses n v.length).filter fun us => decide (gQM c f v us = topFM c n f v)
theorem bsts_isM {c : Ch} {n : Nat} (n1 : 1 ≤ n) (hP : ∀ s u, s < n → u < n → 0 ≤ qP c s u) : ∀ (v : List (Bnt)) (f : Nat → Rat), (∀ u, u < n → 0 ≤ f u) → (∀ o ∈ v, ∀ u, u < n → 0 ≤ qTm c u o) →
    (∀ us ∈ courses n v.length, gQM c f v us ≤ topFM c n f v) ∧ 0 ≤ topFM c n f v ∧ (topFM c n f v ≠ 0 → (bstsM c n f v).length = cntFM c n f v ∧ ∃ r, bstsM c n f v = crsQM c n v f :: r)
  | [], f, _, _ => by
    refine ⟨fun us _ => ?_, by show (0 : Rat) ≤ 1; decide, fun _ => ⟨?_, [], ?_⟩⟩
    · show gQM c f [] us ≤ 1
      unfold gQM
      exact Rat.le_refl
    · rfl
    · rfl
  | o :: v, f, hf, hT => by
    have ih := fun u (hu : u < n) => bsts_isM n1 hP v (qP c u) (fun w hw => hP u w hu hw) fun x hx => hT x (by simp [hx])
    have ho := hT o (by simp)
    obtain ⟨q, hq⟩ : ∃ q : Nat → Rat, q = fun u => f u * (qTm c u o * bstQM c n v u) := ⟨_, rfl⟩
    have eM : topFM c n f (o :: v) = mxQ q n := by rw [hq]; rfl
    have b0 : ∀ u, u < n → 0 ≤ bstQM c n v u := fun u hu => by rw [← topF_pM]; exact (ih u hu).2.1
    have le1 : ∀ u, u < n → ∀ us ∈ courses n v.length, f u * (qTm c u o * gQM c (qP c u) v us) ≤ q u := fun u hu us hus => by
      have a := (ih u hu).1 us hus
      rw [topF_pM] at a
      rw [hq]
      exact Rat.mul_le_mul_of_nonneg_left (Rat.mul_le_mul_of_nonneg_left a (ho u hu)) (hf u hu)
    refine ⟨fun us hus => ?_, ?_, fun ne => ?_⟩
    · rw [List.length_cons, courses_cons] at hus
      obtain ⟨u, hu, hus⟩ := List.mem_flatMap.mp hus
      obtain ⟨us', hus', rfl⟩ := List.mem_map.mp hus
      have hu := List.mem_range.mp hu
      rw [eM]
      exact Rat.le_trans (le1 u hu us' hus') (mxQ_top hu)
    · rw [eM]
      have l := amQ_lt (q := q) n1
      show 0 ≤ q (amQ q n)
      rw [hq] at l ⊢
      exact Rat.mul_nonneg (hf _ l) (Rat.mul_nonneg (ho _ l) (b0 _ l))
    · rw [eM] at ne
      have e1 : bstsM c n f (o :: v) = (amS q n).flatMap fun u => (bstsM c n (qP c u) v).map (u :: ·) := by
        unfold bstsM
        rw [List.length_cons, courses_cons, List.filter_flatMap, eM]
        have inn : ∀ u, u < n → ((courses n v.length).map (u :: ·)).filter (fun us => decide (gQM c f (o :: v) us = mxQ q n)) = if q u = mxQ q n then ((courses n v.length).filter fun us => decide (gQM c (qP c u) v us = topFM c n (qP c u) v)).map (u :: ·) else [] := fun u hu => by
          rw [List.filter_map]
          split
          · rename_i e
            refine congrArg (List.map (u :: ·)) (List.filter_congr fun us hus => ?_)
            show decide (f u * (qTm c u o * gQM c (qP c u) v us) = mxQ q n) = _
            rw [topF_pM, ← e]
            have z : q u ≠ 0 := by rw [e]; exact ne
            have eu : q u = f u * (qTm c u o * bstQM c n v u) := by rw [hq]
            rw [eu] at z ⊢
            by_cases k : gQM c (qP c u) v us = bstQM c n v u
            · rw [decide_eq_true k, decide_eq_true (by rw [k])]
            · rw [decide_eq_false k, decide_eq_false]
              intro w
              refine k ?_
              have z1 : f u ≠ 0 := fun h => z (by rw [h, Rat.zero_mul])
              have z2 : qTm c u o ≠ 0 := fun h => z (by rw [h, Rat.zero_mul, Rat.mul_zero])
              have w1 := rat_cancel z1 w
              exact rat_cancel z2 w1
          · rename_i e
            have : List.filter ((fun us => decide (gQM c f (o :: v) us = mxQ q n)) ∘ fun x => u :: x) (courses n v.length) = [] := by
              refine List.filter_eq_nil_iff.mpr fun us hus => ?_
              show ¬ (decide (f u * (qTm c u o * gQM c (qP c u) v us) = mxQ q n) = true)
              intro w
              have w := of_decide_eq_true w
              have a := le1 u hu us hus
              rw [w] at a
              exact e (Rat.le_antisymm (mxQ_top hu) a)
            rw [this]
            rfl
        rw [flat_cg _ fun u hu => inn u (List.mem_range.mp hu)]
        unfold amS
        rw [← flat_fil (p := fun u => decide (q u = mxQ q n)) (List.range n) fun u hu e => if_neg (of_decide_eq_false e)]
        exact flat_cg _ fun u hu => if_pos (of_decide_eq_true (List.mem_filter.mp hu).2)
      have nz : ∀ u ∈ amS q n, topFM c n (qP c u) v ≠ 0 := fun u hu h => by
        have e : q u = mxQ q n := of_decide_eq_true (List.mem_filter.mp hu).2
        have eu : q u = f u * (qTm c u o * bstQM c n v u) := by rw [hq]
        rw [topF_pM] at h
        exact ne (by rw [← e, eu, h, Rat.mul_zero, Rat.mul_zero])
      have fq : (fun u => f u * (qTm c u o * bstQM c n v u)) = q := hq.symm
      rw [e1]
      refine ⟨?_, ?_⟩
      · show _ = ((amS (fun u => f u * (qTm c u o * bstQM c n v u)) n).map (cntQM c n v)).sum
        rw [fq]
        refine flat_len _ fun u hu => ?_
        rw [List.length_map, ((ih u (amS_lt hu)).2.2 (nz u hu)).1, cntF_pM]
      · show ∃ r, _ = (amQ (fun u => f u * (qTm c u o * bstQM c n v u)) n :: crsQM c n v (qP c (amQ (fun u => f u * (qTm c u o * bstQM c n v u)) n))) :: r
        rw [fq]
        obtain ⟨r, er⟩ := amS_head (q := q) n1
        have m : amQ q n ∈ amS q n := by rw [er]; simp
        obtain ⟨r2, er2⟩ := ((ih _ (amS_lt m)).2.2 (nz _ m)).2
        rw [er, List.flatMap_cons, er2, List.map_cons, List.cons_append]
        exact ⟨_, rfl⟩
theorem amQ_dom {q r : Nat → Rat} {n : Nat} (n1 : 1 ≤ n) (le : ∀ u, u < n → r u ≤ q u) (e : r (amQ q n) = q (amQ q n)) : mxQ r n = mxQ q n ∧ amQ r n = amQ q n := by
  have a := amQ_is (q := q) n n1
  have b := amQ_is (q := r) n n1
  have m1 : r (amQ q n) ≤ r (amQ r n) := b.top _ a.lt
  have m2 : r (amQ r n) ≤ q (amQ r n) := le _ b.lt
  have m3 : q (amQ r n) ≤ q (amQ q n) := a.top _ b.lt
  have e1 : r (amQ r n) = q (amQ q n) := by grind
  refine ⟨e1, ?_⟩
  rcases Nat.lt_trichotomy (amQ r n) (amQ q n) with h | h | h
  · have := a.lst _ h
    grind
  · exact h
  · have := b.lst _ h
    grind
def unm (os : List (Option Nat)) : List Bnt := os.map fun o => (o, none)
def bent (os : List (Option Nat)) (p s : Nat) : List Bnt := (unm os).set p (os.getD p none, some s)
theorem bent_len (os : List (Option Nat)) (p s : Nat) : (bent os p s).length = os.length := by unfold bent unm; rw [List.length_set, List.length_map]
theorem bent_fst (os : List (Option Nat)) (p s : Nat) : (bent os p s).map (·.1) = os := by
  unfold bent unm
  rw [List.map_set, List.map_map]
  have e : os.map ((fun o : Bnt => o.1) ∘ fun o => (o, none)) = os := by
    conv => rhs; rw [← List.map_id os]
    exact List.map_congr_left fun _ _ => rfl
  rw [e]
  refine List.ext_getElem (by simp) fun i h1 h2 => ?_
  rw [List.getElem_set]
  split
  · rename_i q
    subst q
    rw [List.getD_eq_getElem?_getD, List.getElem?_eq_getElem h2]
    rfl
  · rfl
theorem unm_fst (os : List (Option Nat)) : (unm os).map (·.1) = os := by
  unfold unm
  rw [List.map_map]
  conv => rhs; rw [← List.map_id os]
  exact List.map_congr_left fun _ _ => rfl
theorem unm_len (os : List (Option Nat)) : (unm os).length = os.length := by unfold unm; rw [List.length_map]
section
variable {c : Ch} {n : Nat}
theorem qTm_un (u : Nat) (o : Option Nat) : qTm c u (o, none) = qT c u o := if_pos rfl
theorem bst_un : ∀ (os : List (Option Nat)) (s : Nat), bstQM c n (unm os) s = bstQ c n os s
  | [], _ => rfl
  | o :: os, s => by
    show mxQ (fun u => qP c s u * (qTm c u (o, none) * bstQM c n (unm os) u)) n = mxQ (fun u => qP c s u * (qT c u o * bstQ c n os u)) n
    rw [show (fun u => qP c s u * (qTm c u (o, none) * bstQM c n (unm os) u)) = fun u => qP c s u * (qT c u o * bstQ c n os u) from funext fun u => by rw [qTm_un, bst_un os u]]
theorem crs_un : ∀ (os : List (Option Nat)) (f : Nat → Rat), crsQM c n (unm os) f = crsQ c n os f
  | [], _ => rfl
  | o :: os, f => by
    have e : (fun u => f u * (qTm c u (o, none) * bstQM c n (unm os) u)) = fun u => f u * (qT c u o * bstQ c n os u) := funext fun u => by rw [qTm_un, bst_un os u]
    show amQ (fun u => f u * (qTm c u (o, none) * bstQM c n (unm os) u)) n :: crsQM c n (unm os) (qP c (amQ (fun u => f u * (qTm c u (o, none) * bstQM c n (unm os) u)) n)) = amQ (fun u => f u * (qT c u o * bstQ c n os u)) n :: crsQ c n os _
    rw [e, crs_un os]
theorem topF_un (f : Nat → Rat) : ∀ (os : List (Option Nat)), topFM c n f (unm os) = topF c n f os
  | [] => rfl
  | o :: os => by
    show mxQ (fun u => f u * (qTm c u (o, none) * bstQM c n (unm os) u)) n = mxQ (fun u => f u * (qT c u o * bstQ c n os u)) n
    rw [show (fun u => f u * (qTm c u (o, none) * bstQM c n (unm os) u)) = fun u => f u * (qT c u o * bstQ c n os u) from funext fun u => by rw [qTm_un, bst_un os u]]
theorem top_un (os : List (Option Nat)) : topQM c n (unm os) = topQ c n os := by rw [← topF_qM, ← topF_q, topF_un]
theorem bent_zero (o : Option Nat) (os : List (Option Nat)) (s : Nat) : bent (o :: os) 0 s = (o, some s) :: unm os := rfl
theorem bent_succ (o : Option Nat) (os : List (Option Nat)) (p s : Nat) : bent (o :: os) (p + 1) s = (o, none) :: bent os p s := rfl
/-- what a course that has the state there is worth -/
theorem gQ_un : ∀ (os : List (Option Nat)) (us : List Nat) (f : Nat → Rat), gQM c f (unm os) us = gQ c f os us
  | [], us, f => by cases us <;> rfl
  | o :: os, [], f => rfl
  | o :: os, u :: us, f => by
    show f u * (qTm c u (o, none) * gQM c (qP c u) (unm os) us) = f u * (qT c u o * gQ c (qP c u) os us)
    rw [qTm_un, gQ_un os us]
theorem gQ_bent : ∀ (os : List (Option Nat)) (us : List Nat) (f : Nat → Rat) (p s : Nat), os.length = us.length → p < os.length → gQM c f (bent os p s) us = if us.getD p 0 = s then gQ c f os us else 0
  | [], us, f, p, s, _, h => by simp at h
  | o :: os, [], f, p, s, h, _ => by simp at h
  | o :: os, u :: us, f, 0, s, _, _ => by
    rw [bent_zero]
    show f u * (qTm c u (o, some s) * gQM c (qP c u) (unm os) us) = if u = s then f u * (qT c u o * gQ c (qP c u) os us) else 0
    rw [gQ_un]
    unfold qTm okM
    by_cases h : u = s
    · rw [if_pos h, if_pos (by simp [h])]
    · rw [if_neg h, if_neg (by simp [h]), Rat.zero_mul, Rat.mul_zero]
  | o :: os, u :: us, f, p + 1, s, h, hp => by
    rw [bent_succ]
    show f u * (qTm c u (o, none) * gQM c (qP c u) (bent os p s) us) = if us.getD p 0 = s then f u * (qT c u o * gQ c (qP c u) os us) else 0
    rw [gQ_bent os us (qP c u) p s (by simpa using h) (by simpa using hp), qTm_un]
    split
    · rfl
    · rw [Rat.mul_zero, Rat.mul_zero]
/-- with the best course's own state asked, the best one stays -/
theorem bent_le (n1 : 1 ≤ n) (hP : ∀ s u, s < n → u < n → 0 ≤ qP c s u) : ∀ (os : List (Option Nat)) (f : Nat → Rat) (p s : Nat), (∀ u, u < n → 0 ≤ f u) → (∀ o ∈ os, ∀ u, u < n → 0 ≤ qT c u o) → p < os.length → topFM c n f (bent os p s) ≤ topF c n f os
  | [], f, p, s, _, _, h => by simp at h
  | o :: os, f, 0, s, hf, hT, _ => by
    rw [bent_zero]
    show mxQ (fun u => f u * (qTm c u (o, some s) * bstQM c n (unm os) u)) n ≤ mxQ (fun u => f u * (qT c u o * bstQ c n os u)) n
    refine mxQ_le n1 fun u hu => Rat.le_trans ?_ (mxQ_top (q := fun u => f u * (qT c u o * bstQ c n os u)) hu)
    have b0 : 0 ≤ bstQ c n os u := by rw [← topF_p]; exact (bsts_is n1 hP os (qP c u) (fun w hw => hP u w hu hw) fun x hx => hT x (by simp [hx])).2.1
    have t0 := hT o (by simp) u hu
    show f u * (qTm c u (o, some s) * bstQM c n (unm os) u) ≤ f u * (qT c u o * bstQ c n os u)
    rw [bst_un]
    refine Rat.mul_le_mul_of_nonneg_left (Rat.mul_le_mul_of_nonneg_right ?_ b0) (hf u hu)
    unfold qTm
    split
    · exact Rat.le_refl
    · exact t0
  | o :: os, f, p + 1, s, hf, hT, h => by
    rw [bent_succ]
    show mxQ (fun u => f u * (qTm c u (o, none) * bstQM c n (bent os p s) u)) n ≤ mxQ (fun u => f u * (qT c u o * bstQ c n os u)) n
    refine mxQ_le n1 fun u hu => Rat.le_trans ?_ (mxQ_top (q := fun u => f u * (qT c u o * bstQ c n os u)) hu)
    have ih := bent_le n1 hP os (qP c u) p s (fun w hw => hP u w hu hw) (fun x hx => hT x (by simp [hx])) (by simpa using h)
    rw [topF_pM, topF_p] at ih
    show f u * (qTm c u (o, none) * bstQM c n (bent os p s) u) ≤ f u * (qT c u o * bstQ c n os u)
    rw [qTm_un]
    exact Rat.mul_le_mul_of_nonneg_left (Rat.mul_le_mul_of_nonneg_left ih (hT o (by simp) u hu)) (hf u hu)
theorem bent_own (n1 : 1 ≤ n) (hP : ∀ s u, s < n → u < n → 0 ≤ qP c s u) : ∀ (os : List (Option Nat)) (f : Nat → Rat) (p : Nat), (∀ u, u < n → 0 ≤ f u) → (∀ o ∈ os, ∀ u, u < n → 0 ≤ qT c u o) → p < os.length → topF c n f os ≠ 0 →
    topFM c n f (bent os p ((crsQ c n os f).getD p 0)) = topF c n f os ∧ crsQM c n (bent os p ((crsQ c n os f).getD p 0)) f = crsQ c n os f
  | [], f, p, _, _, h, _ => by simp at h
  | o :: os, f, 0, hf, hT, _, ne => by
    obtain ⟨q, hq⟩ : ∃ q : Nat → Rat, q = fun u => f u * (qT c u o * bstQ c n os u) := ⟨_, rfl⟩
    have hqa : ∀ u, q u = f u * (qT c u o * bstQ c n os u) := fun u => by rw [hq]
    have eT : topF c n f (o :: os) = mxQ q n := by rw [hq]; rfl
    have eC : crsQ c n (o :: os) f = amQ q n :: crsQ c n os (qP c (amQ q n)) := by rw [hq]; rfl
    rw [eC, eT]
    show topFM c n f (bent (o :: os) 0 (amQ q n)) = _ ∧ crsQM c n (bent (o :: os) 0 (amQ q n)) f = _
    rw [bent_zero]
    have d := amQ_dom (q := q) (r := fun u => f u * (qTm c u (o, some (amQ q n)) * bstQM c n (unm os) u)) n1 (fun u hu => by
      have b0 : 0 ≤ bstQ c n os u := by rw [← topF_p]; exact (bsts_is n1 hP os (qP c u) (fun w hw => hP u w hu hw) fun x hx => hT x (by simp [hx])).2.1
      have t0 := hT o (by simp) u hu
      rw [bst_un]
      rw [hqa u]
      refine Rat.mul_le_mul_of_nonneg_left (Rat.mul_le_mul_of_nonneg_right ?_ b0) (hf u hu)
      unfold qTm
      split
      · exact Rat.le_refl
      · exact t0) (by
      rw [bst_un]
      unfold qTm okM
      rw [if_pos (by simp)]
      rw [show q (amQ q n) = f (amQ q n) * (qT c (amQ q n) o * bstQ c n os (amQ q n)) from hqa _])
    refine ⟨d.1, ?_⟩
    show amQ (fun u => f u * (qTm c u (o, some (amQ q n)) * bstQM c n (unm os) u)) n :: crsQM c n (unm os) (qP c (amQ (fun u => f u * (qTm c u (o, some (amQ q n)) * bstQM c n (unm os) u)) n)) = _
    rw [d.2, crs_un]
  | o :: os, f, p + 1, hf, hT, h, ne => by
    obtain ⟨q, hq⟩ : ∃ q : Nat → Rat, q = fun u => f u * (qT c u o * bstQ c n os u) := ⟨_, rfl⟩
    have hqa : ∀ u, q u = f u * (qT c u o * bstQ c n os u) := fun u => by rw [hq]
    have eT : topF c n f (o :: os) = mxQ q n := by rw [hq]; rfl
    have eC : crsQ c n (o :: os) f = amQ q n :: crsQ c n os (qP c (amQ q n)) := by rw [hq]; rfl
    rw [eT] at ne
    rw [eC, eT]
    have un : amQ q n < n := amQ_lt n1
    have hT' : ∀ x ∈ os, ∀ u, u < n → 0 ≤ qT c u x := fun x hx => hT x (by simp [hx])
    have ne' : topF c n (qP c (amQ q n)) os ≠ 0 := fun z => by
      rw [topF_p] at z
      have e : mxQ q n = f (amQ q n) * (qT c (amQ q n) o * bstQ c n os (amQ q n)) := hqa _
      rw [z, Rat.mul_zero, Rat.mul_zero] at e
      exact ne e
    obtain ⟨i1, i2⟩ := bent_own n1 hP os (qP c (amQ q n)) p (fun w hw => hP _ w un hw) hT' (by simpa using h) ne'
    show topFM c n f (bent (o :: os) (p + 1) ((crsQ c n os (qP c (amQ q n))).getD p 0)) = _ ∧ crsQM c n (bent (o :: os) (p + 1) ((crsQ c n os (qP c (amQ q n))).getD p 0)) f = _
    generalize (crsQ c n os (qP c (amQ q n))).getD p 0 = s at *
    rw [bent_succ]
    have d := amQ_dom (q := q) (r := fun u => f u * (qTm c u (o, none) * bstQM c n (bent os p s) u)) n1 (fun u hu => by
      have ih := bent_le n1 hP os (qP c u) p s (fun w hw => hP u w hu hw) hT' (by simpa using h)
      rw [topF_pM, topF_p] at ih
      rw [qTm_un, hqa u]
      exact Rat.mul_le_mul_of_nonneg_left (Rat.mul_le_mul_of_nonneg_left ih (hT o (by simp) u hu)) (hf u hu)) (by
      rw [topF_pM, topF_p] at i1
      rw [qTm_un, i1, show q (amQ q n) = f (amQ q n) * (qT c (amQ q n) o * bstQ c n os (amQ q n)) from hqa _])
    refine ⟨d.1, ?_⟩
    show amQ (fun u => f u * (qTm c u (o, none) * bstQM c n (bent os p s) u)) n :: crsQM c n (bent os p s) (qP c (amQ (fun u => f u * (qTm c u (o, none) * bstQM c n (bent os p s) u)) n)) = _
    rw [d.2, i2]
end
/-- what the law weighs -/
def wB (c : Ch) (os : List (Option Nat)) (p s : Nat) (us : List Nat) : Int := if us.getD p 0 = s then lwW c os us else 0
theorem qTm_nn {B n k : Nat} {c : Ch} (h : Lw B n k c) {os : List (Option Nat)} (ho : Okv k os) (p s : Nat) : ∀ o ∈ bent os p s, ∀ u, u < n → 0 ≤ qTm c u o := fun o hx u hu => by
  have m : o.1 ∈ os := by
    rw [← bent_fst os p s]
    exact List.mem_map.mpr ⟨o, hx, rfl⟩
  unfold qTm
  split
  · exact rat_nn (h.tn hu (ho o.1 m)).1 h.p2 (h.t hu (ho o.1 m))
  · exact Rat.le_refl
theorem all_bent {B n k : Nat} {c : Ch} {os : List (Option Nat)} {p s : Nat} (h : Lw B n k c) (ho : Okv k os) (hp : p < os.length) : (tpM (wB c os p s) (courses n os.length) : Rat) = topQM c n (bent os p s) * (lbC c os.length : Rat) ∧ (topQM c n (bent os p s) = 0 → kpM (wB c os p s) (courses n os.length) = []) ∧
    (topQM c n (bent os p s) ≠ 0 → ∃ r, kpM (wB c os p s) (courses n os.length) = crsQM c n (bent os p s) (qS c) :: r) := by
  have n1 := h.ok.n1
  have hP : ∀ s u, s < n → u < n → 0 ≤ qP c s u := fun s u hs hu => rat_nn (h.pn hs hu).1 h.p1 (h.p hs hu)
  have hS : ∀ u, u < n → 0 ≤ qS c u := fun u hu => rat_nn (h.sn hu).1 h.p0 (h.s u)
  obtain ⟨b1, b2, b3⟩ := bsts_isM n1 hP (bent os p s) (qS c) hS (qTm_nn h ho p s)
  rw [topF_qM] at b2 b3
  have bl := bent_len os p s
  have dp := lbC_pos h os.length
  have dq : (0 : Rat) < (lbC c os.length : Rat) := Rat.intCast_lt_intCast (a := 0).mpr dp
  have d0 : (lbC c os.length : Rat) ≠ 0 := by grind
  have w := fun us (hus : us ∈ courses n os.length) => show (wB c os p s us : Rat) = gQM c (qS c) (bent os p s) us * (lbC c os.length : Rat) from by
    rw [gQ_bent os us (qS c) p s (courses_len n os.length us hus).symm hp]
    unfold wB
    split
    · exact gQ_lw h os us ho (courses_len n os.length us hus).symm fun u hu => courses_lt n os.length us hus u hu
    · rw [Rat.zero_mul]; rfl
  obtain ⟨W, hW⟩ : ∃ W, W = wB c os p s := ⟨_, rfl⟩
  rw [← hW] at w ⊢
  rw [bl] at b1
  have e : (tpM W (courses n os.length) : Rat) = topQM c n (bent os p s) * (lbC c os.length : Rat) := by
    by_cases z : topQM c n (bent os p s) = 0
    · rw [z, Rat.zero_mul]
      have a := tpM_le (w := W) (m := 0) (by decide) (l := courses n os.length) fun us hus => by
        have g := b1 us hus
        rw [topF_qM, z] at g
        have := Rat.mul_le_mul_of_nonneg_right g (Rat.le_of_lt dq)
        rw [← w us hus, Rat.zero_mul] at this
        exact Rat.intCast_le_intCast.mp this
      have b := tpM_nn (w := W) (courses n os.length)
      rw [show tpM W (courses n os.length) = 0 by omega]
      rfl
    · obtain ⟨_, r, er⟩ := b3 z
      have mb : crsQM c n (bent os p s) (qS c) ∈ bstsM c n (qS c) (bent os p s) := by rw [er]; simp
      obtain ⟨m1, m2⟩ := List.mem_filter.mp mb
      have m2 := of_decide_eq_true m2
      rw [topF_qM] at m2
      rw [bl] at m1
      have wm := w _ m1
      rw [m2] at wm
      have m0 : 0 ≤ W (crsQM c n (bent os p s) (qS c)) := by
        refine Rat.intCast_nonneg.mp ?_
        rw [wm]
        exact Rat.mul_nonneg b2 (Rat.le_of_lt dq)
      have a := tpM_le (w := W) m0 (l := courses n os.length) fun us hus => by
        have g := b1 us hus
        rw [topF_qM] at g
        have := Rat.mul_le_mul_of_nonneg_right g (Rat.le_of_lt dq)
        rw [← w us hus, ← wm] at this
        exact Rat.intCast_le_intCast.mp this
      have b := tpM_top (w := W) m1
      rw [← wm]
      exact congrArg _ (by omega)
  refine ⟨e, fun z => ?_, fun ne => ?_⟩
  · refine List.filter_eq_nil_iff.mpr fun us hus => ?_
    intro q
    obtain ⟨q1, q2⟩ := of_decide_eq_true q
    rw [z, Rat.zero_mul] at e
    have := Rat.intCast_eq_zero_iff.mp e
    omega
  · have ek : kpM W (courses n os.length) = bstsM c n (qS c) (bent os p s) := by
      unfold bstsM
      rw [bl]
      refine List.filter_congr fun us hus => ?_
      rw [topF_qM]
      by_cases k : gQM c (qS c) (bent os p s) us = topQM c n (bent os p s)
      · have w1 := w us hus
        rw [k, ← e] at w1
        have w1 := Rat.intCast_inj.mp w1
        rw [decide_eq_true k, decide_eq_true]
        refine ⟨w1, ?_⟩
        have : tpM W (courses n os.length) ≠ 0 := fun z => by
          rw [z] at e
          have e : (0 : Rat) = topQM c n (bent os p s) * (lbC c os.length : Rat) := e
          rcases Rat.mul_eq_zero.mp e.symm with q | q
          · exact ne q
          · exact d0 q
        have := tpM_nn (w := W) (courses n os.length)
        omega
      · rw [decide_eq_false k, decide_eq_false]
        rintro ⟨q, _⟩
        refine k ?_
        have w1 := w us hus
        rw [q, e] at w1
        grind
    rw [ek]
    exact (b3 ne).2
/-- the head of what is kept, course by course -/
theorem kpM_head {w : List Nat → Int} (l : List (List Nat)) (us : List Nat) : (kpM w (l ++ [us])).head? = if tpM w l < w us then some us else (kpM w l).head? := by
  rw [kpM_snoc, tpM_snoc]
  by_cases h : tpM w l < w us
  · have := tpM_nn (w := w) l
    rw [if_pos h, if_pos h, if_pos h, if_pos ⟨rfl, by omega⟩]
    rfl
  · rw [if_neg h, if_neg h, if_neg h]
    split
    · rename_i q
      cases e : kpM w l with
      | cons a r => rfl
      | nil =>
        have tz : tpM w l = 0 := by
          refine Classical.byContradiction fun nz => ?_
          have nn := tpM_nn (w := w) l
          have : ∃ x ∈ l, w x = tpM w l := by
            have key : ∀ (l : List (List Nat)) (t : Int), l.foldl (fun t us => if t < w us then w us else t) t = t ∨ ∃ x ∈ l, w x = l.foldl (fun t us => if t < w us then w us else t) t := fun l => by
              induction l with
              | nil => intro t; exact .inl rfl
              | cons a r ih =>
                intro t
                rw [List.foldl_cons]
                rcases ih (if t < w a then w a else t) with h | ⟨x, hx, h⟩
                · by_cases q : t < w a
                  · refine .inr ⟨a, by simp, ?_⟩
                    rw [h, if_pos q]
                  · refine .inl ?_
                    rw [h, if_neg q]
                · exact .inr ⟨x, by simp [hx], h⟩
            rcases key l 0 with h | h
            · exact absurd h nz
            · exact h
          obtain ⟨x, hx, ex⟩ := this
          have m : x ∈ kpM w l := List.mem_filter.mpr ⟨hx, decide_eq_true ⟨ex, by omega⟩⟩
          rw [e] at m
          cases m
        omega
    · rfl
end VP

/-! VR4: xs[:0:-1] -/
namespace L2
open PySem PySem.Spec PyProof.Rows VB VZ VC RT
theorem pick_down1 (items : Array Value) : slicePick items none (some 0) (some (-1)) = (items.toList.drop 1).reverse.toArray := by
  have eb : ∀ n : Nat, sliceRange (sliceBounds none (some 0) (some (-1)) n).1 (sliceBounds none (some 0) (some (-1)) n).2.1 (sliceBounds none (some 0) (some (-1)) n).2.2 = (List.range (n - 1)).map fun k => n - 1 - k := fun n => by
    have h := VP.ix_down1 n
    rw [← h]
    rfl
  unfold slicePick
  rw [eb]
  have e1 : (fun x => items[x]?) = fun x => items.toList[x]? := funext fun k => Array.getElem?_toList.symm
  have hz : items.size = items.toList.length := by simp
  rw [e1, hz]
  generalize items.toList = l
  congr 1
  refine List.ext_getElem? fun i => ?_
  rw [List.filterMap_map]
  have key : ∀ m, m ≤ l.length - 1 → ((List.range m).filterMap ((fun x => l[x]?) ∘ fun k => l.length - 1 - k)) = (List.range m).map fun k => l.getD (l.length - 1 - k) default := fun m hm => by
    induction m with
    | zero => rfl
    | succ m ih =>
      rw [List.range_succ, List.filterMap_append, List.map_append, ih (by omega)]
      congr 1
      have : ((fun x => l[x]?) ∘ fun k => l.length - 1 - k) m = some (l.getD (l.length - 1 - m) default) := by
        show l[l.length - 1 - m]? = some _
        rw [List.getD_eq_getElem?_getD, List.getElem?_eq_getElem (by omega)]
        rfl
      rw [List.filterMap_cons, this]
      rfl
  rw [key _ (Nat.le_refl _)]
  by_cases hi : i < l.length - 1
  · rw [List.getElem?_map, List.getElem?_range hi, List.getElem?_reverse (by rw [List.length_drop]; exact hi), List.length_drop, List.getElem?_drop]
    show some (l.getD (l.length - 1 - i) default) = _
    rw [show 1 + (l.length - 1 - 1 - i) = l.length - 1 - i by omega, List.getD_eq_getElem?_getD, List.getElem?_eq_getElem (by omega)]
    rfl
  · rw [List.getElem?_eq_none_iff.mpr (by simp; omega), List.getElem?_eq_none_iff.mpr (by simp; omega)]
def tRevL1 (K : PySem.W.Frag) (te : TE) : TE := fun σ H Q => te σ H fun x H1 => ∃ a xs, x = .ref a ∧ SqL K H1 a xs ∧ ∀ p, H1 p = none → Q (.ref p) (upd H1 p (.lst (xs.drop 1).reverse))
section
variable {X : Cx}
theorem pe_revL1 {e : Expr} {te : TE} {k k0 : Nat} {p0 p1 p2 p3 pos : Pos} (he : PE X e te) : PE X (.Subscript e (.Slice none (some (.Constant (.int 0) k0 p0)) (some (.UnaryOp .USub (.Constant (.int 1) k p1) p2)) p3) pos) (tRevL1 X.K te) := by
  refine ⟨fun pins s σ H Q I h => ?_⟩
  refine Subscript_ (thn (he.run pins s σ H _ I h) fun v s1 ⟨x, H1, I1, r1, q1⟩ => ?_)
  obtain ⟨a, xs, ex, hx, q⟩ := q1
  subst ex
  cases r1
  have hst : PO X (some (.UnaryOp .USub (.Constant (.int 1) k p1) p2)) (tPart (tUn (rU fun i => .int (-i)) (tC (.int 1)))) := po_some (pe_un un_neg pe_int)
  have hup : PO X (some (.Constant (.int 0) k0 p0)) (tPart (tC (.int 0))) := po_some pe_int
  refine wpAny_Slice (thn (po_none.run pins s1 σ H1 (fun o H2 => o = none ∧ H2 = H1) I1 ⟨rfl, rfl⟩) fun vl s2 ⟨l, H2, I2, pl, el, e2⟩ => ?_)
  subst el e2
  refine thn (hup.run pins s2 σ H2 (fun o H3 => o = some 0 ∧ H3 = H2) I2 ⟨0, rfl, rfl, rfl⟩) fun vu s3 ⟨u, H3, I3, pu, eu, e3⟩ => ?_
  subst eu e3
  refine thn (hst.run pins s3 σ H3 (fun o H4 => o = some (-1) ∧ H4 = H3) I3 ⟨1, rfl, -1, rfl, rfl, rfl⟩) fun vs s4 ⟨o, H4, I4, ps, eo, e4⟩ => ?_
  subst eo e4
  have I5 : Inv X pins σ H4 { s4 with heap := s4.heap.push { cls := .type "slice", data := .fields #[vl, vu, vs] } } := I4.kept (t' := s4.toks) fun b ob q => Heap.get?_push_of_some _ q
  obtain ⟨its, r, ht, hz⟩ := I5.list hx
  have hlen := r.length
  show wpAny (model X.prog X.w) X.A (subscriptTail e (.Slice none (some (.Constant (.int 0) k0 p0)) (some (.UnaryOp .USub (.Constant (.int 1) k p1) p2)) p3) (.ref a) (.ref s4.heap.objs.size)) (EP X pins σ Q) X.xe { s4 with heap := s4.heap.push { cls := .type "slice", data := .fields #[vl, vu, vs] } }
  refine tail_any (ops := [.ref a, .ref s4.heap.objs.size]) ht.isList.typeIs (PySem.slot_list_getitem.lookup) ?_ (by with_unfolding_all rfl)
  refine wpAny_getItem_list_slice ht.isList (Heap.IsSliceOf.new _ vl vu vs) pl pu ps (by decide) ?_ (by rw [List.size_toArray]; omega)
  rw [pick_down1]
  refine ⟨.ref _, _, I5.laid (t' := s4.toks) (o := .lst (xs.drop 1).reverse) (fun b ob q => Heap.get?_push_of_some _ q) (Nat.le_refl _) ?_, rfl, q _ (I5.hok.fresh (Nat.le_refl _))⟩
  exact ⟨by rw [List.length_reverse, List.length_drop]; omega, _, 0, (r.drop 1).reverse, Heap.get?_push_size _ rfl⟩
end
end L2
namespace VP
open PySem PySem.Spec PyProof.Rows L2 VB VZ VC RT
section
variable {X : Cx} {B : Hp} {m0 : Md} {b : Bs} {e : Expr} {te : TE} {pe : PTE} {pos p0 p1 p2 p3 : Pos} {k k0 : Nat}
def revK1 (P : List PyData → Prop) : D → Prop := fun d => ∃ a, d = .py (.list a) ∧ P (a.drop 1).reverse
def pRevL1 (pe : PTE) : PTL := fun env P => pe env (revK1 P)
theorem sf_revL1 (h : SE b te pe) : SF b (tRevL1 b.K te) (pRevL1 pe) := by
  intro W σ env H Q P hR hp k
  refine h W σ env H _ _ hR hp fun v d H1 g1 r1 q1 => ?_
  obtain ⟨a, rfl, q⟩ := q1
  obtain ⟨p, xs, rfl, e1, a1⟩ := dq_lst r1.dp
  refine ⟨p, xs, rfl, SqL.of (vw_sub _ _ e1), fun p2 hp2 => ?_⟩
  exact k p2 _ _ _ (g1.trans (.new g1.ok hp2)) (g1.free hp2) upd_same ((dqa_rev (dqa_drop 1 a1)).mv (vw_add_same g1.ok hp2)) q
theorem qf_revL1 {K' : PySem.W.Frag} (h : QE X B m0 e te pe) (hK : X.K = K' := by rfl) : QF X B m0 (.Subscript e (.Slice none (some (.Constant (.int 0) k0 p0)) (some (.UnaryOp .USub (.Constant (.int 1) k p1) p2)) p3) pos) (tRevL1 K' te) (pRevL1 pe) := by
  subst hK
  exact ⟨pe_revL1 h.p, sf_revL1 (b := bs X B m0) h.s⟩
theorem w_revL1 {env : PEnv} {P : List PyData → Prop} (h : pe env (revK1 P)) : pRevL1 pe env P := h
theorem w_revk1 {x : D} {a : List PyData} {P : List PyData → Prop} (hx : x = .py (.list a)) (h : P (a.drop 1).reverse) : revK1 P x := ⟨a, hx, h⟩
end
end VP

/-! VS1: values of all kinds: isinstance, {} -/
namespace VP
open PySem PySem.Spec PyProof.Rows L2 VB VZ VC RT
def tyN : PyData → String
  | .none => "NoneType"
  | .bool _ => "bool"
  | .int _ => "int"
  | .str _ => "str"
  | .list _ => "list"
  | .tuple _ => "tuple"
  | .dict _ => "dict"
theorem dq_ty {K : PySem.W.Frag} {H : Hp} {v : V} {p : PyData} (h : Dq K H v p) : TyX K H v (.type (tyN p)) := by
  cases h with
  | non => exact .base .non
  | bl b => exact .base (.bl b)
  | int i => exact .base (.int i)
  | str x => exact .base (.str x)
  | lst hs _ => exact .base (.lst hs)
  | tup hs _ => exact tyT hs
  | emp e => exact .base (.dK e)
def oIsi : PC := fun ds P => ∃ (p : PyData) (T : String) (b : Bool), ds = [.py p, tyD T] ∧ kitB (tyN p) T = some b ∧ P (.py (.bool b))
theorem sc_isi {K : PySem.W.Frag} : SC K (rIsi K) oIsi := sc_flat fun m H xs ds Q P ho rx q k => by
  obtain ⟨p, T, b, rfl, e, h⟩ := q
  obtain ⟨v, w, rfl, r1, r2⟩ := rds2 rx
  have r2 : w = .ty T := r2
  subst r2
  exact ⟨v, .ty T, _, .type T, b, rfl, .ty T, dq_ty (r1.dp.mv vw_sub), kit_ty e, k _ _ (rdp (.bl b)) h⟩
theorem w_isi {p : PyData} {T : String} {b : Bool} {P : D → Prop} (e : kitB (tyN p) T = some b) (h : P (.py (.bool b))) : oIsi [.py p, tyD T] P := ⟨p, T, b, rfl, e, h⟩
def isStr : PyData → Bool
  | .str _ => true
  | _ => false
def isTup : PyData → Bool
  | .tuple _ => true
  | _ => false
def isLst : PyData → Bool
  | .list _ => true
  | _ => false
def isIntB : PyData → Bool
  | .int _ => true
  | .bool _ => true
  | _ => false
def isBoolB : PyData → Bool
  | .bool _ => true
  | _ => false
theorem kit_str : ∀ p : PyData, kitB (tyN p) "str" = some (isStr p)
  | .none => (by decide +kernel : kitB "NoneType" "str" = some false)
  | .bool _ => (by decide +kernel : kitB "bool" "str" = some false)
  | .int _ => (by decide +kernel : kitB "int" "str" = some false)
  | .str _ => (by decide +kernel : kitB "str" "str" = some true)
  | .list _ => (by decide +kernel : kitB "list" "str" = some false)
  | .tuple _ => (by decide +kernel : kitB "tuple" "str" = some false)
  | .dict _ => (by decide +kernel : kitB "dict" "str" = some false)
theorem kit_tup : ∀ p : PyData, kitB (tyN p) "tuple" = some (isTup p)
  | .none => (by decide +kernel : kitB "NoneType" "tuple" = some false)
  | .bool _ => (by decide +kernel : kitB "bool" "tuple" = some false)
  | .int _ => (by decide +kernel : kitB "int" "tuple" = some false)
  | .str _ => (by decide +kernel : kitB "str" "tuple" = some false)
  | .list _ => (by decide +kernel : kitB "list" "tuple" = some false)
  | .tuple _ => (by decide +kernel : kitB "tuple" "tuple" = some true)
  | .dict _ => (by decide +kernel : kitB "dict" "tuple" = some false)
theorem kit_int : ∀ p : PyData, kitB (tyN p) "int" = some (isIntB p)
  | .none => (by decide +kernel : kitB "NoneType" "int" = some false)
  | .bool _ => (by decide +kernel : kitB "bool" "int" = some true)
  | .int _ => (by decide +kernel : kitB "int" "int" = some true)
  | .str _ => (by decide +kernel : kitB "str" "int" = some false)
  | .list _ => (by decide +kernel : kitB "list" "int" = some false)
  | .tuple _ => (by decide +kernel : kitB "tuple" "int" = some false)
  | .dict _ => (by decide +kernel : kitB "dict" "int" = some false)
theorem kit_bool : ∀ p : PyData, kitB (tyN p) "bool" = some (isBoolB p)
  | .none => (by decide +kernel : kitB "NoneType" "bool" = some false)
  | .bool _ => (by decide +kernel : kitB "bool" "bool" = some true)
  | .int _ => (by decide +kernel : kitB "int" "bool" = some false)
  | .str _ => (by decide +kernel : kitB "str" "bool" = some false)
  | .list _ => (by decide +kernel : kitB "list" "bool" = some false)
  | .tuple _ => (by decide +kernel : kitB "tuple" "bool" = some false)
  | .dict _ => (by decide +kernel : kitB "dict" "bool" = some false)
theorem kit_lst : ∀ p : PyData, kitB (tyN p) "list" = some (isLst p)
  | .none => (by decide +kernel : kitB "NoneType" "list" = some false)
  | .bool _ => (by decide +kernel : kitB "bool" "list" = some false)
  | .int _ => (by decide +kernel : kitB "int" "list" = some false)
  | .str _ => (by decide +kernel : kitB "str" "list" = some false)
  | .list _ => (by decide +kernel : kitB "list" "list" = some true)
  | .tuple _ => (by decide +kernel : kitB "tuple" "list" = some false)
  | .dict _ => (by decide +kernel : kitB "dict" "list" = some false)
section
variable {P : D → Prop}
theorem w_isStr {p : PyData} (h : P (.py (.bool (isStr p)))) : oIsi [.py p, tyD "str"] P := w_isi (kit_str p) h
theorem w_isTup {p : PyData} (h : P (.py (.bool (isTup p)))) : oIsi [.py p, tyD "tuple"] P := w_isi (kit_tup p) h
theorem w_isInt {p : PyData} (h : P (.py (.bool (isIntB p)))) : oIsi [.py p, tyD "int"] P := w_isi (kit_int p) h
theorem w_isBool {p : PyData} (h : P (.py (.bool (isBoolB p)))) : oIsi [.py p, tyD "bool"] P := w_isi (kit_bool p) h
theorem w_isLst {p : PyData} (h : P (.py (.bool (isLst p)))) : oIsi [.py p, tyD "list"] P := w_isi (kit_lst p) h
end
/-- a whole number, not a truth value -/
def isWh : PyData → Bool
  | .int _ => true
  | _ => false
theorem isWh_eq (p : PyData) : isWh p = (isIntB p && !isBoolB p) := by cases p <;> rfl
/-- tuple(text) -/
abbrev rTupS : List V → Hp → VK → Prop := fun xs H Q => ∃ z : Str, xs = [.str z] ∧ z.cps.size ≤ sizeLine ∧ ∀ p, H p = none → Q (.ref p) (upd H p (.tup (z.cps.toList.map fun c => V.str (sg1 c))))
theorem call_tupS {X : Cx} (hc : X.calm = true) : CallR X (.type "tuple") rTupS := by
  intro pins s σ H xs us Q I r h
  obtain ⟨z, rfl, hz, q⟩ := h
  obtain ⟨u, rfl, rx⟩ := vals1 r
  obtain ⟨t, rfl⟩ := rx
  refine call_tuple_str (I.ok.hd hc) z t (fun h' tk acc hk hacc => ?_) hz
  have I1 : Inv X pins σ H { s with heap := h', toks := tk } := I.kept hk
  have I2 : Inv X pins σ (upd H h'.objs.size (.tup (z.cps.toList.map fun c => V.str (sg1 c)))) { s with heap := h'.push { cls := .type "tuple", data := .seq acc }, toks := tk } :=
    I1.laid (t' := tk) (fun b o e => Heap.get?_push_of_some _ e) (Nat.le_refl _) (show ObjOk X.prog X.w _ _ _ (.tup _) from ⟨by simpa using hz, acc.toList, sign_vals z acc hacc, by
      have := IsTup.new h' acc
      simpa using this⟩)
  exact ⟨.ref h'.objs.size, _, I2, rfl, q _ (I1.hok.fresh (Nat.le_refl _))⟩
def oTupS : PC := fun ds P => ∃ z : Str, ds = [.py (.str z)] ∧ z.cps.size ≤ sizeLine ∧ P (.py (.tuple (sgsD z)))
theorem sc_tupS {K : PySem.W.Frag} : SC K rTupS oTupS := fun m H xs ds Q P ho rx q k => by
  obtain ⟨z, rfl, hz, h⟩ := q
  obtain ⟨v, rfl, r⟩ := rds1 rx
  cases r.dp
  exact ⟨z, rfl, hz, fun p hp => k _ _ _ (.new ho hp) (rdp (.tup (SqT.of (vw_new ho hp)) (dqa_sgs _))) h⟩
theorem w_tupS {z : Str} {P : D → Prop} (hz : z.cps.size ≤ sizeLine) (h : P (.py (.tuple (sgsD z)))) : oTupS [.py (.str z)] P := ⟨z, rfl, hz, h⟩
/-- {} -/
def pEmp : PTE := fun _ P => P (.py (.dict []))
theorem w_emp {env : PEnv} {P : D → Prop} (h : P (.py (.dict []))) : pEmp env P := h
theorem qe_emp {X : Cx} {B : Hp} {m0 : Md} {pos : Pos} : QE X B m0 (.Dict [] [] pos) tDNewK pEmp := ⟨pe_dnewK, fun W σ env H Q P hR hp k p hpn =>
  k _ _ _ (.new hR.ok hpn) (rdp (.emp (vw_new hR.ok hpn))) hp⟩
end VP
namespace VP
open PySem PySem.Spec PyProof.Rows L2 VB VZ VC RT
section
variable {X : Cx} {B : Hp} {m0 : Md} {b : Bs} {e : Expr} {te : TE} {pe : PTE} {pos : Pos}
def nvK (P : D → Prop) : D → Prop := fun d => ∃ c, d = .py (.bool c) ∧ P (.py (.bool (!c)))
def pNotV (pe : PTE) : PTE := fun env P => pe env (nvK P)
theorem se_notV (h : SE b te pe) : SE b (tNotV te) (pNotV pe) := fun W σ env H Q P hR hp k =>
  h W σ env H _ _ hR hp fun v d H' g r q => by
    obtain ⟨c, rfl, q⟩ := q
    cases r.dp
    exact ⟨c, rfl, k _ _ H' g (rdp (.bl _)) q⟩
theorem qe_notV (h : QE X B m0 e te pe) : QE X B m0 (.UnaryOp .Not e pos) (tNotV te) (pNotV pe) := ⟨pe_not h.p, se_notV (b := bs X B m0) h.s⟩
theorem w_notV {env : PEnv} {P : D → Prop} (h : pe env (nvK P)) : pNotV pe env P := h
theorem w_nvk {c : Bool} {P : D → Prop} (h : P (.py (.bool (!c)))) : nvK P (.py (.bool c)) := ⟨c, rfl, h⟩
end
end VP

namespace VK
open PySem PySem.Spec PyProof.Rows L2 VB VZ VC
/-! own short words: "rd" takes one construct of a reading -/
local macro_rules | `(tactic| walk_at "rd") => `(tactic| (first
  | with_reducible refine r_seq ?_ | with_reducible refine r_set ?_ | with_reducible refine r_ret ?_ | with_reducible refine r_drop ?_ | with_reducible refine r_if ?_ | with_reducible refine r_next ?_ | with_reducible refine r_par ?_ | with_reducible refine r_two ?_ | with_reducible refine r_par3 ?_ | with_reducible refine r_three ?_ | with_reducible refine r_gName ?_
  | with_reducible refine r_var (by with_unfolding_all rfl) ?_ | with_reducible refine r_eq (by with_unfolding_all rfl) ?_ | with_reducible refine r_ne (by with_unfolding_all rfl) ?_
  | with_reducible refine r_c ?_ | with_reducible refine r_op ?_ | with_reducible refine r_un ?_ | with_reducible refine r_I0 ?_ | with_reducible refine r_U ?_ | with_reducible refine r_test ?_ | with_reducible refine r_tB ?_ | with_reducible refine r_bl ?_ | with_reducible refine r_and ?_ | with_reducible refine r_or ?_ | with_reducible refine r_not ?_ | with_reducible refine r_andV ?_ | with_reducible refine r_orV ?_ | with_reducible refine r_notV ?_ | with_reducible refine r_nv ?_ | with_reducible refine r_ifx ?_ | with_reducible refine r_tup ?_ | with_reducible refine r_lst ?_ | with_reducible refine r_nil ?_ | with_reducible refine r_cons ?_ | with_reducible refine r_cb ?_ | with_reducible refine r_call ?_ | with_reducible refine r_ck ?_ | with_reducible refine r_abs ?_ | with_reducible refine r_int ?_ | with_reducible refine r_intb ?_ | with_reducible refine r_dget ?_ | with_reducible refine r_dput ?_ | with_reducible refine r_bm ?_ | with_reducible refine r_bm0 ?_ | with_reducible refine r_sl ?_ | with_reducible refine r_none ?_ | with_reducible refine r_some ?_ | with_reducible refine r_someI ?_ | with_reducible refine r_iL ?_ | with_reducible refine r_iT ?_ | with_reducible refine r_rng1 ?_ | with_reducible refine r_rng2 ?_ | with_reducible refine r_for ?_ | with_reducible refine r_lc ?_ | with_reducible refine r_yesT ?_ | with_reducible refine r_pcons ?_ | with_reducible refine r_pnil ?_ | with_reducible refine r_gcons ?_ | with_reducible refine r_gnil ?_ | with_reducible refine r_asg ?_ | with_reducible refine r_chain ?_ | with_reducible refine r_m1 ?_ | with_reducible refine r_mk1 ?_ | with_reducible refine r_gsub ?_ | with_reducible refine r_iZ ?_ | with_reducible refine r_iN ?_ | with_reducible refine r_iS ?_ | with_reducible refine r_sk ?_ | with_reducible refine r_iRV ?_))
local macro_rules | `(tactic| walk_at "rds") => `(tactic| (repeat walk_at "rd"))
def topS (i : Nat) : Stmt := PySem.Challenge.pw_veiledchains_k08_what_are_views_and_cour.main.body.getD i (.Pass ⟨0, 0, 0, 0⟩)
abbrev s_is_whole : Stmt := topS 2
theorem sc_is_whole : FnScope ["value"] ["value"] (defScope s_is_whole) := ⟨rfl, rfl, rfl, by decide +kernel, rfl, by decide +kernel, by decide +kernel⟩
abbrev s_view_error : Stmt := topS 5
theorem sc_view_error : FnScope ["chain", "value", "place", "sign"] ["chain", "value"] (defScope s_view_error) := ⟨rfl, rfl, rfl, by decide +kernel, rfl, by decide +kernel, by decide +kernel⟩
abbrev s_course_error : Stmt := topS 6
theorem sc_course_error : FnScope ["chain", "view", "value", "states", "place", "item"] ["chain", "view", "value"] (defScope s_course_error) := ⟨rfl, rfl, rfl, by decide +kernel, rfl, by decide +kernel, by decide +kernel⟩
abbrev s_law_deck : Stmt := topS 8
theorem sc_law_deck : FnScope ["script", "cell", "cells", "stirred"] ["script"] (defScope s_law_deck) := ⟨rfl, rfl, rfl, by decide +kernel, rfl, by decide +kernel, by decide +kernel⟩
abbrev s_law_draw : Stmt := topS 9
theorem sc_law_draw : FnScope ["deck", "many", "great", "cell", "one"] ["deck", "many"] (defScope s_law_draw) := ⟨rfl, rfl, rfl, by decide +kernel, rfl, by decide +kernel, by decide +kernel⟩
abbrev s_law_pick : Stmt := topS 10
theorem sc_law_pick : FnScope ["deck", "items"] ["deck", "items"] (defScope s_law_pick) := ⟨rfl, rfl, rfl, by decide +kernel, rfl, by decide +kernel, by decide +kernel⟩
abbrev s_law_shuffled : Stmt := topS 11
theorem sc_law_shuffled : FnScope ["deck", "items", "left", "found", "turn"] ["deck", "items"] (defScope s_law_shuffled) := ⟨rfl, rfl, rfl, by decide +kernel, rfl, by decide +kernel, by decide +kernel⟩
abbrev s_law_line : Stmt := topS 12
theorem sc_law_line : FnScope ["deck", "many", "line", "turn"] ["deck", "many"] (defScope s_law_line) := ⟨rfl, rfl, rfl, by decide +kernel, rfl, by decide +kernel, by decide +kernel⟩
abbrev s_law_chain : Stmt := topS 13
theorem sc_law_chain : FnScope ["deck", "states", "signs", "letters", "steps", "tells", "state"] ["deck", "states", "signs"] (defScope s_law_chain) := ⟨rfl, rfl, rfl, by decide +kernel, rfl, by decide +kernel, by decide +kernel⟩
abbrev s_law_view : Stmt := topS 14
theorem sc_law_view : FnScope ["deck", "signs", "length", "is_gapped", "items", "turn"] ["deck", "signs", "length", "is_gapped"] (defScope s_law_view) := ⟨rfl, rfl, rfl, by decide +kernel, rfl, by decide +kernel, by decide +kernel⟩
abbrev s_law_is_whole : Stmt := topS 15
theorem sc_law_is_whole : FnScope ["value", "low", "high"] ["value", "low", "high"] (defScope s_law_is_whole) := ⟨rfl, rfl, rfl, by decide +kernel, rfl, by decide +kernel, by decide +kernel⟩
abbrev s_law_view_due : Stmt := topS 16
theorem sc_law_view_due : FnScope ["chain", "value", "place", "sign"] ["chain", "value"] (defScope s_law_view_due) := ⟨rfl, rfl, rfl, by decide +kernel, rfl, by decide +kernel, by decide +kernel⟩
abbrev s_law_course_due : Stmt := topS 17
theorem sc_law_course_due : FnScope ["chain", "view", "value", "place", "item"] ["chain", "view", "value"] (defScope s_law_course_due) := ⟨rfl, rfl, rfl, by decide +kernel, rfl, by decide +kernel, by decide +kernel⟩
abbrev s_law_odd_view : Stmt := topS 18
theorem sc_law_odd_view : FnScope ["deck", "chain", "view", "at", "sign", "odd"] ["deck", "chain", "view"] (defScope s_law_odd_view) := ⟨rfl, rfl, rfl, by decide +kernel, rfl, by decide +kernel, by decide +kernel⟩
abbrev s_law_odd_course : Stmt := topS 19
theorem sc_law_odd_course : FnScope ["deck", "chain", "view", "many", "course", "turn", "spot", "item", "sign"] ["deck", "chain", "view"] (defScope s_law_odd_course) := ⟨rfl, rfl, rfl, by decide +kernel, rfl, by decide +kernel, by decide +kernel⟩
abbrev s_law : Stmt := topS 20
theorem sc_law : FnScope ["script", "deck", "turn", "chain", "view", "known", "nth", "value", "due", "kept", "found", "sign"] ["script"] (defScope s_law) := ⟨rfl, rfl, rfl, by decide +kernel, rfl, by decide +kernel, by decide +kernel⟩
def gW_view_error_value_chain : List Value → List Value → List Value
  | [], [k0, k1] => [k1, k0]
  | _, _ => []
def gV_view_error_value_chain : List V → List V → List V
  | [], [k0, k1] => [k1, k0]
  | _, _ => []
theorem kw_view_error_value_chain : KwIs s_view_error "view_error" ["chain", "value"] ["value", "chain"] gW_view_error_value_chain gV_view_error_value_chain where
  to := by
    intro kV doc pm an cdv ct us ws hl
    have h : ∃ k0 k1, us = [] ∧ ws = [k0, k1] := by
      unfold gW_view_error_value_chain at hl
      split at hl
      · exact ⟨_, _, rfl, rfl⟩
      · cases hl
    obtain ⟨k0, k1, rfl, rfl⟩ := h
    rfl
  rel := by
    intro vs us zs ws r q
    cases r with
    | nil => 
      cases q with
      | nil => exact .nil
      | cons rk0 q =>
        cases q with
        | nil => exact .nil
        | cons rk1 q =>
          cases q with
          | nil => exact (.cons rk1 (.cons rk0 .nil))
          | cons _ _ => exact .nil
    | cons _ _ => exact .nil
def gW_course_error_value_view_chain : List Value → List Value → List Value
  | [], [k0, k1, k2] => [k2, k1, k0]
  | _, _ => []
def gV_course_error_value_view_chain : List V → List V → List V
  | [], [k0, k1, k2] => [k2, k1, k0]
  | _, _ => []
theorem kw_course_error_value_view_chain : KwIs s_course_error "course_error" ["chain", "view", "value"] ["value", "view", "chain"] gW_course_error_value_view_chain gV_course_error_value_view_chain where
  to := by
    intro kV doc pm an cdv ct us ws hl
    have h : ∃ k0 k1 k2, us = [] ∧ ws = [k0, k1, k2] := by
      unfold gW_course_error_value_view_chain at hl
      split at hl
      · exact ⟨_, _, _, rfl, rfl⟩
      · cases hl
    obtain ⟨k0, k1, k2, rfl, rfl⟩ := h
    rfl
  rel := by
    intro vs us zs ws r q
    cases r with
    | nil => 
      cases q with
      | nil => exact .nil
      | cons rk0 q =>
        cases q with
        | nil => exact .nil
        | cons rk1 q =>
          cases q with
          | nil => exact .nil
          | cons rk2 q =>
            cases q with
            | nil => exact (.cons rk2 (.cons rk1 (.cons rk0 .nil)))
            | cons _ _ => exact .nil
    | cons _ _ => exact .nil
def gD_view_error_value_chain : List VP.D → List VP.D → List VP.D
  | [], [k0, k1] => [k1, k0]
  | _, _ => []
theorem go_view_error_value_chain : VP.GOk gV_view_error_value_chain gD_view_error_value_chain where
  rel := by
    intro K m H vs zs ds es r q
    cases r with
    | nil => 
      cases q with
      | nil => exact .nil
      | cons rk0 q =>
        cases q with
        | nil => exact .nil
        | cons rk1 q =>
          cases q with
          | nil => exact (.cons rk1 (.cons rk0 .nil))
          | cons _ _ => exact .nil
    | cons _ _ => exact .nil
def gD_course_error_value_view_chain : List VP.D → List VP.D → List VP.D
  | [], [k0, k1, k2] => [k2, k1, k0]
  | _, _ => []
theorem go_course_error_value_view_chain : VP.GOk gV_course_error_value_view_chain gD_course_error_value_view_chain where
  rel := by
    intro K m H vs zs ds es r q
    cases r with
    | nil => 
      cases q with
      | nil => exact .nil
      | cons rk0 q =>
        cases q with
        | nil => exact .nil
        | cons rk1 q =>
          cases q with
          | nil => exact .nil
          | cons rk2 q =>
            cases q with
            | nil => exact (.cons rk2 (.cons rk1 (.cons rk0 .nil)))
            | cons _ _ => exact .nil
    | cons _ _ => exact .nil
section
variable {P : Program} {w : World} {K : PySem.W.Frag} {mg : Str → Option Value} {base : Heap}
theorem ok_law_draw (B : Blt mg) {f : Addr} {fd : FuncData} (F : Fun K "_law_draw" "_law_draw" s_law_draw f fd) : FG P w K mg base 1 f fd ["deck", "many"] spDraw := by
  refine okX F sc_law_draw (fun vs H Q E h => ?_) (fun cdv A out s H vs Q E gu hr h => ?_)
  · obtain ⟨d, l, m, rfl, _⟩ := h
    rfl
  · obtain ⟨d, l, m, rfl, hD, hm, k⟩ := h
    have hu := hu_of hr
    refine ⟨_, (pss_cons (ps_set (i := 2) sc_law_draw.nd rfl (.inl rfl) (pe_dget hu (pv 0) pe_str (fun _ _ => rfl)))
      (pss_cons (ps_if (pt_cmpR op_lt (pv 1) pe_int (nomark _)) (pss_one (ps_ret pe_int)) pss_nil)
      (pss_cons (ps_if (pt_cmpR (op_neD hr.units) (pv 2) (pe_lst pa_nil) (nomark _)) (pss_cons (ps_set (i := 3) sc_law_draw.nd rfl (.inl rfl) (pe_bm0 PySem.F.plainAttrs_list PySem.F.slot_list_pop PySem.F.type_list_pop mt_pop (pv 2)))
      (pss_cons (ps_if (pt_cmpR op_ge (pv 3) (pv 1) (nomark _)) (pss_one (ps_expr (pe_bm PySem.F.plainAttrs_list PySem.F.slot_list_append PySem.F.type_list_append mt_append (pv 2) (pa_cons (pe_op op_dv (pv 3) (pv 1)) pa_nil)))) pss_nil)
      (pss_one (ps_ret (pe_op op_modN (pe_callTy (T := "int") cl_int (by rfl) B.int (by decide +kernel) (pa_cons (pv 3) pa_nil)) (pv 1)))))) pss_nil)
      (pss_cons (ps_dput hu (pv 0) pe_str (pe_op op_add (pe_dget hu (pv 0) pe_str (fun _ _ => rfl)) pe_int) rfl)
      (pss_cons (ps_set (i := 4) sc_law_draw.nd rfl (.inl rfl) (pe_op op_mod (pe_callTy (T := "int") cl_int (by rfl) B.int (by decide +kernel) (pa_cons (pe_op op_add (pe_dget hu (pv 0) pe_str (fun _ _ => rfl)) (pe_op op_ml pe_int (pe_dget hu (pv 0) pe_str (fun _ _ => rfl)))) pa_nil)) pe_int))
      (pss_cons (ps_set (i := 4) sc_law_draw.nd rfl (.inl rfl) (pe_op op_mod (pe_callTy (T := "int") cl_int (by rfl) B.int (by decide +kernel) (pa_cons (pe_op op_add (pe_op op_add (pe_op op_ml (pv 4) (pv 4)) (pe_op op_ml pe_int (pe_dget hu (pv 0) pe_str (fun _ _ => rfl)))) pe_int) pa_nil)) pe_int))
      (pss_cons (ps_set (i := 4) sc_law_draw.nd rfl (.inl rfl) (pe_op op_mod (pe_callTy (T := "int") cl_int (by rfl) B.int (by decide +kernel) (pa_cons (pe_op op_add (pe_op op_ml (pv 4) (pv 4)) (pe_dget hu (pv 0) pe_str (fun _ _ => rfl))) pa_nil)) pe_int))
      (pss_one (ps_ret (pe_op op_modN (pe_callTy (T := "int") cl_int (by rfl) B.int (by decide +kernel) (pa_cons (pe_op op_fdiv (pv 4) pe_int) pa_nil)) (pv 1))))))))))), ?_⟩
    obtain ⟨⟨kvs, st, tn, hd, hl, vG, vS, vT, h0⟩, ⟨ns, hL, hn, hln⟩⟩ := id hD
    have dl := hD.dl
    walk_at "rds"
    refine r_dgetK (k := kG) hd vG ?_
    walk_at "rds"
    refine r_ifs (fun c => ?_) (fun c => ?_)
    · walk_at "rds"
      exact k 0 H (Adv.refl hD) (Int.le_refl _) (.inr rfl)
    · have hm2 : 2 ≤ m := by
        have := of_decide_eq_false c
        omega
      walk_at "rds"
      refine r_newL (Nat.zero_le _) fun p hp => ?_
      have hpl : p ≠ d ∧ p ≠ l := hD.ne hp
      have hd1 : upd H p (.lst []) d = some (.dK kvs) := by rw [upd_ne hpl.1.symm]; exact hd
      have hL1 : upd H p (.lst []) l = some (.lst (ns.map V.int)) := by rw [upd_ne hpl.2.symm]; exact hL
      have a1 : Adv d l H (upd H p (.lst [])) := .new hD hp
      refine r_neNil (SqL.of hL1) (SqL.of upd_same) ?_
      walk_at "rds"
      refine r_ifs (fun c2 => ?_) (fun c2 => ?_)
      · have hne : ns ≠ [] := by intro z; subst z; exact absurd c2 (by decide)
        obtain ⟨r, x, rfl, e1, e2⟩ := last_int hne
        have hx : 0 ≤ x := hn x (by simp)
        have a2 : Adv d l H (upd (upd H p (.lst [])) l (.lst (r.map V.int))) :=
          ⟨⟨⟨kvs, st, tn, by rw [upd_ne dl]; exact hd1, hl, vG, vS, vT, h0⟩, ⟨r, upd_same, fun n hm => hn n (by simp [hm]), by simp at hln; omega⟩⟩, by rw [hid_updl]; exact a1.st⟩
        walk_at "rds"
        refine r_pop hL1 e1 ?_
        rw [e2]
        walk_at "rds"
        refine r_ifs (fun c3 => ?_) (fun c3 => ?_)
        · walk_at "rds"
          refine r_tyL upd_same ?_
          walk_at "rds"
          refine r_I ⟨by omega, hm⟩ ?_
          walk_at "rds"
          refine r_app upd_same (by simp at hln ⊢; omega) ?_
          walk_at "rds"
          refine r_I (by omega) ?_
          walk_at "rds"
          have hf := fmod_lt (a := x) hm2
          refine k _ _ ⟨⟨⟨kvs, st, tn, ?_, hl, vG, vS, vT, h0⟩, ⟨r ++ [x.fdiv m], ?_, ?_, ?_⟩⟩, ?_⟩ hf.1 (.inl hf.2)
          · rw [upd_ne dl, upd_ne dl]; exact hd1
          · rw [upd_same, List.map_append]; rfl
          · intro n hm
            rcases List.mem_append.mp hm with z | z
            · exact hn n (by simp [z])
            · rw [List.mem_singleton.mp z]; exact fdiv_nn hx (by omega)
          · simp at hln ⊢; omega
          · rw [hid_updl]; exact a2.st
        · walk_at "rds"
          refine r_I (by omega) ?_
          walk_at "rds"
          have hf := fmod_lt (a := x) hm2
          exact k _ _ a2 hf.1 (.inl hf.2)
      · walk_at "rds"
        refine r_dgetK (k := kT) hd1 vT ?_
        walk_at "rds"
        refine r_dputK (k := kT) hd1 (by omega) ?_
        have hd2 : upd (upd H p (.lst [])) d (.dK (putK kvs kT (.int (tn + 1)))) d = some (.dK (putK kvs kT (.int (tn + 1)))) := upd_same
        have wS : valV (putK kvs kT (.int (tn + 1))) kS = some (.int st) := by rw [valV_put, if_neg kST]; exact vS
        have wG : valV (putK kvs kT (.int (tn + 1))) kG = some (.ref l) := by rw [valV_put, if_neg kGT]; exact vG
        have wT : valV (putK kvs kT (.int (tn + 1))) kT = some (.int (tn + 1)) := by rw [valV_put, if_pos rfl]
        have a2 : Adv d l H (upd (upd H p (.lst [])) d (.dK (putK kvs kT (.int (tn + 1))))) :=
          ⟨⟨⟨_, st, tn + 1, upd_same, by rw [put_len vT]; exact hl, wG, wS, wT, h0⟩, ⟨ns, by rw [upd_ne dl.symm]; exact hL1, hn, hln⟩⟩, by rw [hid_updd]; exact a1.st⟩
        walk_at "rds"
        refine r_dgetK (k := kS) hd2 wS ?_
        walk_at "rds"
        refine r_dgetK (k := kT) hd2 wT ?_
        walk_at "rds"
        refine r_I (mul_small (by decide) (by decide)) ?_
        walk_at "rds"
        refine r_I (by decide) ?_
        walk_at "rds"
        have q1 : ∀ z : Int, 0 ≤ z % 4294967279 ∧ z % 4294967279 < 4294967279 := fun z => ⟨Int.emod_nonneg z (by decide), Int.emod_lt_of_pos z (by decide)⟩
        refine r_I (mul_small (q1 _).1 (by have := (q1 (st + 2654435761 * (tn + 1))).2; omega)) ?_
        walk_at "rds"
        refine r_dgetK (k := kT) hd2 wT ?_
        walk_at "rds"
        refine r_I (mul_small (by decide) (by decide)) ?_
        walk_at "rds"
        refine r_I (by decide) ?_
        walk_at "rds"
        have q2 : ∀ z : Int, 0 ≤ z % 4294967231 ∧ z % 4294967231 < 4294967231 := fun z => ⟨Int.emod_nonneg z (by decide), Int.emod_lt_of_pos z (by decide)⟩
        generalize (st + 2654435761 * (tn + 1)) % 4294967279 = y1
        refine r_I (mul_small (q2 _).1 (by have := (q2 (y1 * y1 + 97 * (tn + 1) + 53)).2; omega)) ?_
        walk_at "rds"
        refine r_dgetK (k := kS) hd2 wS ?_
        walk_at "rds"
        refine r_I (by decide) ?_
        walk_at "rds"
        refine r_I ⟨by decide, by decide⟩ ?_
        walk_at "rds"
        refine r_I (by omega) ?_
        walk_at "rds"
        generalize (y1 * y1 + 97 * (tn + 1) + 53) % 4294967231 = y2
        have hf := fmod_lt (a := (y2 * y2 + st) % 4294967197 / 16) hm2
        exact k _ _ a2 hf.1 (.inl hf.2)
theorem ok_law_pick (B : Blt mg) {f : Addr} {fd : FuncData} (F : Fun K "_law_pick" "_law_pick" s_law_pick f fd) (c_law_draw : FnAt P w K mg base s_law_draw 1 "_law_draw" ["deck", "many"] spDraw) :
    FG P w K mg base 2 f fd ["deck", "items"] (spPick K) := by
  refine okX F sc_law_pick (fun vs H Q E h => ?_) (fun cdv A out s H vs Q E gu hr h => ?_)
  · obtain ⟨d, l, q, xs, rfl, _⟩ := h
    rfl
  · obtain ⟨d, l, q, xs, rfl, hD, hS, h0, h1, k⟩ := h
    have hu := hu_of hr
    refine ⟨_, (pss_one (ps_ret (pe_ix (r := rIxL K) ix_list (pv 1) (pe_c c_law_draw gu (hr.mono (by decide)) (fun σ => passN σ) (pa_cons (pv 0) (pa_cons (pe_callB (r := VB.rLen K) cl_len (by rfl) B.len (by decide +kernel) (pa_cons (pv 1) pa_nil)) pa_nil))) (fun _ _ => rfl)))), ?_⟩
    walk_at "rds"
    refine r_len (.inl (seqL_same hid_sub hS)) ?_
    walk_at "rds"
    refine ⟨d, l, _, rfl, hD, log2_small (by omega), fun r H' a hr0 hr1 => ?_⟩
    have hlt : r.toNat < xs.length := by omega
    have e : ((r.toNat : Nat) : Int) = r := by omega
    have z := atI_nat (List.getElem?_eq_getElem hlt)
    rw [e] at z
    refine r_ixL (seqL_same hid_sub (seqL_same a.st hS)) z ?_
    exact k _ _ a (List.getElem_mem hlt)

theorem ok_law_deck (B : Blt mg) {f : Addr} {fd : FuncData} (F : Fun K "_law_deck" "_law_deck" s_law_deck f fd) : FG P w K mg base 1 f fd ["script"] (spDeck K) := by
  refine okX F sc_law_deck (fun vs H Q E h => ?_) (fun cdv A out s H vs Q E gu hr h => ?_)
  · obtain ⟨a, ns, rfl, _⟩ := h
    rfl
  · obtain ⟨a, ns, rfl, hS, hlen, k⟩ := h
    have hu := hu_of hr
    refine ⟨_, (pss_cons (ps_par (i := 2) (j := 3) (by rfl) sc_law_deck.nd rfl rfl (by decide) rfl rfl (pa_cons (pe_lc (own := [("cell", 1)]) (g := (gName 1)) (tt := tYes) rfl sc_law_deck.nd (pi_list (pe_slice sl_list (pv 0) po_none (po_some pe_int))) (blkOk_by (own := [("cell", 1)]) (N := ["script", "cell", "cells", "stirred"]) (sc := defScope s_law_deck) (by decide +kernel)) (fun _ _ _ _ _ => (pg_name (i := 1) sc_law_deck.nd rfl (.inl rfl))) (fun _ _ _ _ _ => pts_nil) (fun _ _ _ _ _ => (pe_op op_add (pe_op op_ml pe_int (pe_callB cl_abs (by rfl) B.abs (by decide +kernel) (pa_cons (pv 1) pa_nil))) (pe_callTy (T := "int") cl_int (by rfl) B.int (by decide +kernel) (pa_cons (pe_cmpR op_lt (pv 1) pe_int (nomark _)) pa_nil))))) (pa_cons (pe_op op_add pe_int (pe_callB (r := VB.rLen K) cl_len (by rfl) B.len (by decide +kernel) (pa_cons (pv 0) pa_nil))) pa_nil)) (by rfl))
      (pss_cons (ps_for (passes_of rfl) rfl (pi_list (pv 2)) (pg_name (i := 1) sc_law_deck.nd rfl (.inl rfl))
        (pss_one (ps_set (i := 3) sc_law_deck.nd rfl (.inl rfl) (pe_op op_mod (pe_callTy (T := "int") cl_int (by rfl) B.int (by decide +kernel) (pa_cons (pe_op op_add (pe_op op_add (pe_op op_ml (pv 3) pe_int) (pv 1)) pe_int) pa_nil)) pe_int))))
      (pss_one (ps_ret (pe_disp (pps_cons pe_str (pe_lc (own := [("cell", 1)]) (g := (gName 1)) rfl sc_law_deck.nd (pi_list (pv 2)) (blkOk_by (own := [("cell", 1)]) (N := ["script", "cell", "cells", "stirred"]) (sc := defScope s_law_deck) (by decide +kernel)) (fun _ _ _ _ _ => (pg_name (i := 1) sc_law_deck.nd rfl (.inl rfl))) (fun _ _ _ _ _ => (pts_one (pt_cmpR op_ge (pv 1) (pe_op op_pow pe_int pe_int) (nomark _)))) (fun _ _ _ _ _ => (pv 1))) (pps_cons pe_str (pv 3) (pps_cons pe_str pe_int pps_nil))) (by rfl) (by rfl) (fun z => by cases z) (by decide)))))), ?_⟩
    walk_at "rds"
    refine r_slL hS fun b hb => ?_
    have s1 : Same H (upd H b (.lst (cutV (ns.map V.int) none (some 60)))) := same_new hb
    obtain ⟨ms, em, lm⟩ := cut_ints ns 60
    have em : cutV (ns.map V.int) none (some 60) = ms.map V.int := em
    rw [em] at s1 ⊢
    refine r_lk (SqL.of upd_same) (r_lcM (fun v => match v with | .int i => .int (2 * (if i < 0 then -i else i) + (if decide (i < 0) = true then 1 else 0)) | v => v) (SqL.of upd_same) (by rw [List.length_map]; omega) (fun x hx H' S h => ?_) fun c hc => ?_)
    · obtain ⟨i, _, rfl⟩ := List.mem_map.mp hx
      walk_at "rds"
      refine r_I (mul_small (by decide) (by decide)) ?_
      walk_at "rds"
      exact h
    · rw [List.map_map]
      have fe : ((fun v => match v with | .int i => .int (2 * (if i < 0 then -i else i) + (if decide (i < 0) = true then 1 else 0)) | v => v) ∘ V.int : Int → V) = V.int ∘ cellV := rfl
      rw [fe, ← List.map_map]
      have s2 : Same H (upd (upd H b (.lst (ms.map V.int))) c (.lst ((ms.map cellV).map V.int))) := s1.trans (same_new hc)
      walk_at "rds"
      refine r_len (.inl (seqL_same s2 hS)) ?_
      walk_at "rds"
      generalize hH : upd (upd H b (.lst (ms.map V.int))) c (.lst ((ms.map cellV).map V.int)) = H1 at *
      have hC : H1 c = some (.lst ((ms.map cellV).map V.int)) := by rw [← hH]; exact upd_same
      refine r_lk (SqL.of hC) (r_forL (xs := (ms.map cellV).map V.int) (fun i σ H' => ∃ (y : Option V) (st : Int), σ = [some (.ref a), y, some (.ref c), some (.int st)] ∧ 0 ≤ st ∧ H' = H1) ⟨none, _, rfl, by omega, rfl⟩ (fun i σ H' _ h => ?_) (fun i x σ H' hx h => ?_) fun σ H' h => ?_)
      · obtain ⟨_, _, _, _, rfl⟩ := h
        exact SqL.of hC
      · obtain ⟨y, st, rfl, h0, rfl⟩ := h
        obtain ⟨z, _, rfl⟩ := List.mem_map.mp (List.mem_of_getElem? hx)
        walk_at "rds"
        refine r_I (mul_smallR (by decide) (by decide)) ?_
        walk_at "rds"
        refine r_I (by decide) ?_
        walk_at "rds"
        exact ⟨_, _, rfl, Int.emod_nonneg _ (by decide), rfl⟩
      · obtain ⟨y, st, rfl, h0, rfl⟩ := h
        walk_at "rds"
        refine r_disp fun p hp => ?_
        walk_at "rds"
        have hCp : upd H' p (.dK []) c = some (.lst ((ms.map cellV).map V.int)) := by rw [upd_ne (ne_of_none hC hp)]; exact hC
        refine r_lk (SqL.of hCp) (r_lcFM (fun v => match v with | .int i => decide (10 ^ 16 ≤ i) | _ => false) (fun v => v) (SqL.of hCp) (by simp; omega) (fun x hx H' S h => ?_) (fun x hx _ H' S h => ?_) fun l hl => ?_)
        · obtain ⟨i, _, rfl⟩ := List.mem_map.mp hx
          walk_at "rds"
          refine r_I ⟨by decide, by decide, by decide⟩ ?_
          walk_at "rds"
          exact h
        · obtain ⟨i, _, rfl⟩ := List.mem_map.mp hx
          walk_at "rds"
          exact h
        · have e1 : List.map (fun v => v) (List.filter (fun v : V => match v with | .int i => decide (10 ^ 16 ≤ i) | _ => false) (List.map V.int (List.map cellV ms))) = List.map V.int (List.filter (fun i => decide (10 ^ 16 ≤ i)) (ms.map cellV)) := by
            rw [List.map_id', List.filter_map]; rfl
          rw [e1]
          walk_at "rds"
          have npl : p ≠ l := ne_of_none upd_same hl
          refine r_dispk [(kG, .ref l), (kS, .int st), (kT, .int 0)] (by rw [upd_ne npl]; exact upd_same) (by simp) ?_
          have hp0 : H p = none := s2.free hp
          have hl0 : H l = none := s2.free ((same_new hp).free hl)
          refine k p l _ hp0 hl0 ?_ ⟨⟨_, st, 0, upd_same, ?_, ?_, ?_, ?_, h0⟩, ⟨_, by rw [upd_ne npl.symm]; exact upd_same, ?_, ?_⟩⟩
          · intro x o hx
            rw [upd_ne (ne_of_none hx hp0), upd_ne (ne_of_none hx hl0), upd_ne (ne_of_none hx hp0)]
            exact s2 x o hx
          · exact Nat.le_trans (length_mergeK _ _) (by simp)
          · show valV (putK (putK (putK [] kG (V.ref l)) kS (V.int st)) kT (V.int 0)) kG = _
            rw [valV_put, if_neg kGT, valV_put, if_neg kGS, valV_put, if_pos rfl]
          · show valV (putK (putK (putK [] kG (V.ref l)) kS (V.int st)) kT (V.int 0)) kS = _
            rw [valV_put, if_neg kST, valV_put, if_pos rfl]
          · show valV (putK (putK (putK [] kG (V.ref l)) kS (V.int st)) kT (V.int 0)) kT = _
            rw [valV_put, if_pos rfl]
          · intro n hn
            have := (List.mem_filter.mp hn).2
            have h2 : (10 ^ 16 : Int) ≤ n := of_decide_eq_true this
            omega
          · refine Nat.le_trans (List.length_filter_le _ _) ?_
            rw [List.length_map]
            omega
open RT VP
local macro_rules | `(tactic| walk_at "e") => `(tactic| (first
  | with_reducible refine w_next ?_ | with_reducible refine w_set ?_ | with_reducible refine w_setO ?_ | with_reducible refine w_asg ?_ | with_reducible refine w_asgk ?_ | with_reducible refine w_par ?_ | with_reducible refine w_park ?_ | with_reducible refine w_par3 ?_ | with_reducible refine w_park3 ?_ | with_reducible refine w_parOO ?_ | with_reducible refine w_parOX ?_ | with_reducible refine w_parXO ?_
  | with_reducible refine w_if ?_ | with_reducible refine w_ret ?_ | with_reducible refine w_retN ?_ | with_reducible refine w_drop ?_ | with_reducible refine w_for ?_
  | with_reducible refine w_var (by with_unfolding_all rfl) (by with_unfolding_all rfl) ?_ | with_reducible refine w_c ?_ | with_reducible refine w_F ?_ | with_reducible refine w_op ?_ | with_reducible refine w_un ?_
  | with_reducible refine w_I0 (by with_unfolding_all rfl) (by with_unfolding_all rfl) ?_ | with_reducible refine w_neg (by with_unfolding_all rfl) ?_
  | with_reducible refine w_eq (by with_unfolding_all rfl) (by with_unfolding_all rfl) (by with_unfolding_all rfl) ?_ | with_reducible refine w_ne (by with_unfolding_all rfl) (by with_unfolding_all rfl) (by with_unfolding_all rfl) ?_
  | with_reducible refine w_isN (by with_unfolding_all rfl) (by with_unfolding_all rfl) ?_ | with_reducible refine w_notN (by with_unfolding_all rfl) (by with_unfolding_all rfl) ?_ | with_reducible refine w_S (by with_unfolding_all rfl) (by with_unfolding_all rfl) ?_
  | with_reducible refine w_test ?_ | with_reducible refine w_B ?_ | with_reducible refine w_bl ?_ | with_reducible refine w_chain ?_ | with_reducible refine w_and ?_ | with_reducible refine w_or ?_ | with_reducible refine w_not ?_ | with_reducible refine w_andV ?_ | with_reducible refine w_orV ?_ | with_reducible refine w_ifE ?_
  | with_reducible refine w_nil ?_ | with_reducible refine w_cons ?_ | with_reducible refine w_tup ?_ | with_reducible refine w_lst ?_ | with_reducible refine w_tupD (by repeat' constructor) (by with_unfolding_all rfl) ?_ | with_reducible refine w_lstD (by repeat' constructor) (by with_unfolding_all rfl) ?_
  | with_reducible refine w_iSq ?_ | with_reducible refine w_lr1 ?_ | with_reducible refine w_lr2 ?_ | with_reducible refine w_lrk1 ?_
  | with_reducible refine w_none ?_ | with_reducible refine w_some ?_ | with_reducible refine w_smk ?_ | with_reducible refine w_slice ?_ | with_reducible refine w_slL (by with_unfolding_all rfl) ?_ | with_reducible refine w_slT (by with_unfolding_all rfl) ?_
  | with_reducible refine w_call ?_ | with_reducible refine w_callL ?_ | with_reducible refine w_lenL (by with_unfolding_all rfl) ?_ | with_reducible refine w_lenT (by with_unfolding_all rfl) ?_ | with_reducible refine w_abs (by with_unfolding_all rfl) ?_ | with_reducible refine w_int (by with_unfolding_all rfl) (by with_unfolding_all rfl) ?_
  | with_reducible refine w_tupL (by with_unfolding_all rfl) ?_ | with_reducible refine w_tupT (by with_unfolding_all rfl) ?_ | with_reducible refine w_lstL (by with_unfolding_all rfl) ?_ | with_reducible refine w_lstT (by with_unfolding_all rfl) ?_ | with_reducible refine w_sumL (by with_unfolding_all rfl) ?_ | with_reducible refine w_sumT (by with_unfolding_all rfl) ?_
  | with_reducible refine w_gcd (by with_unfolding_all rfl) (by with_unfolding_all rfl) ?_ | with_reducible refine w_range (by with_unfolding_all rfl) ?_ | with_reducible refine w_fn ?_ | with_reducible refine w_fnK ?_
  | with_reducible refine w_iL ?_ | with_reducible refine w_iT ?_ | with_reducible refine w_iS ?_ | with_reducible refine w_iR ?_ | with_reducible refine w_iR2 ?_ | with_reducible refine w_iRV ?_ | with_reducible refine w_iZ ?_ | with_reducible refine w_iN ?_ | with_reducible refine w_iV ?_
  | with_reducible refine w_iLk (by with_unfolding_all rfl) ?_ | with_reducible refine w_iTk (by with_unfolding_all rfl) ?_ | with_reducible refine w_iSk (by with_unfolding_all rfl) ?_ | with_reducible refine w_iZk (by with_unfolding_all rfl) (by with_unfolding_all rfl) ?_ | with_reducible refine w_iNk (by with_unfolding_all rfl) ?_ | with_reducible refine w_iVkL (by with_unfolding_all rfl) ?_ | with_reducible refine w_iVkT (by with_unfolding_all rfl) ?_
  | with_reducible refine w_gName ?_ | with_reducible refine w_gTup (by with_unfolding_all rfl) (by with_unfolding_all rfl) ?_ | with_reducible refine w_gUnl (by with_unfolding_all rfl) (by with_unfolding_all rfl) ?_ | with_reducible refine w_gNil ?_ | with_reducible refine w_gCons ?_
  | with_reducible refine w_fz (by with_unfolding_all rfl) ?_ | with_reducible refine w_lend (by with_unfolding_all rfl) ?_ | with_reducible refine w_flk (by with_unfolding_all rfl) ?_ | with_reducible refine w_lendT (by with_unfolding_all rfl) ?_ | with_reducible refine w_ownIx (by with_unfolding_all rfl) ?_ | with_reducible refine w_appk ?_ | with_reducible refine w_setIx (by with_unfolding_all rfl) ?_ | with_reducible refine w_sixk ?_
  | with_reducible refine w_join ?_ | with_reducible refine w_jnk ?_ | with_reducible refine w_m1 ?_ | with_reducible refine w_m1k ?_ | with_reducible refine w_get ?_ | with_reducible refine w_getk ?_ | with_reducible refine w_getk2 (by with_unfolding_all rfl) ?_ | with_reducible refine w_revL ?_ | with_reducible refine w_revk (by with_unfolding_all rfl) ?_ | with_reducible refine w_insk2 ?_ | with_reducible refine w_lc ?_ | with_reducible refine w_rec (by with_unfolding_all decide) (by with_unfolding_all decide) ?_ | with_reducible refine w_prn ?_ | with_reducible refine w_prc ?_ | with_reducible refine w_prk ?_
  | with_reducible refine w_pow (by with_unfolding_all rfl) (by with_unfolding_all rfl) (by with_unfolding_all rfl) ?_ | with_reducible refine w_yesT ?_ | with_reducible refine w_lcT ?_ | with_reducible refine w_tru ?_ | with_reducible refine w_truL (by with_unfolding_all rfl) ?_ | with_reducible refine w_truT (by with_unfolding_all rfl) ?_))
local macro_rules | `(tactic| walk_at "p") => `(tactic| (first | with_reducible refine w_seq ?_ | walk_at "e"))
local macro_rules | `(tactic| walk_at "es") => `(tactic| (repeat walk_at "e"))
local macro_rules | `(tactic| walk_at "ps") => `(tactic| (repeat walk_at "p"))
local macro_rules | `(tactic| walk_at "e") => `(tactic| (first | with_reducible refine w_emp ?_ | with_reducible refine w_notV ?_ | with_reducible refine w_nvk ?_ | with_reducible refine w_isStr ?_ | with_reducible refine w_isTup ?_ | with_reducible refine w_isInt ?_ | with_reducible refine w_isBool ?_ | with_reducible refine w_isLst ?_))
theorem ok_law_line (B : Blt mg) {f : Addr} {fd : FuncData} (F : Fun K "_law_line" "_law_line" s_law_line f fd) (c_law_draw : FnAt P w K mg base s_law_draw 1 "_law_draw" ["deck", "many"] (spP K psDraw)) (c_law_pick : FnAt P w K mg base s_law_pick 2 "_law_pick" ["deck", "items"] (spP K psPick)) :
    FG P w K mg base 3 f fd ["deck", "many"] (spP K psLine) := by
  refine okP F sc_law_line (fun ds PP XX h => ?_) (fun cdv A out s H E BB m0 XX gu hr lk => ⟨_, _, (qss_cons (qs_lcO 2 (ps_lcSet (i := 2) (own := [("turn", 3)]) (g := (gName 3)) (js := [3]) (tt := tYes) (pt := pYes)  rfl sc_law_line.nd rfl rfl (sw_true rfl rfl rfl (by decide +kernel)) (qi_range1 rfl B.range (qa_cons (qv 1) qa_nil)) (blkOk_by (own := [("turn", 3)]) (N := ["deck", "many", "line", "turn"]) (sc := defScope s_law_line) (by decide +kernel)) (fun _ _ _ _ _ => (qg_name (i := 3) sc_law_line.nd rfl (by first | exact .inl rfl | exact .inr rfl))) (fun _ _ _ _ _ => qts_nil) (fun _ _ _ _ _ => (qe_c c_law_pick gu (hr.mono (by decide)) (fun σ => passN σ) lk0 (qa_cons (qv 0) (qa_cons (qe_F (qf_lst (qa_cons qe_int (qa_cons qe_int (qa_cons qe_int (qa_cons qe_int (qa_cons qe_int (qa_cons qe_int (qa_cons qe_int (qa_cons (qe_c c_law_draw gu (hr.mono (by decide)) (fun σ => passN σ) lk0 (qa_cons (qv 0) (qa_cons qe_int qa_nil))) qa_nil)))))))))) qa_nil))))))
      (qss_cons (qs_if (qt_lend 2 (qt_cmp op_eq so_eq (qe_callB (r := rSumT K) (cr_sumT rfl) sc_sum (by rfl) B.sum (by decide +kernel) (qa_cons (qv 2) qa_nil)) qe_int (nomark _))) (qss_one (qs_setIx 2 rfl (by first | exact .inl rfl | exact .inr (.inl rfl)) (qe_op op_add (so_I0 (so_int _)) qe_int (qe_c c_law_draw gu (hr.mono (by decide)) (fun σ => passN σ) lk0 (qa_cons (qv 0) (qa_cons qe_int qa_nil)))) (qe_c c_law_draw gu (hr.mono (by decide)) (fun σ => passN σ) lk0 (qa_cons (qv 0) (qa_cons (qv 1) qa_nil))))) qss_nil)
      (qss_one (qs_fz 2 (qs_ret (qe_callTy (T := "tuple") (r := rTupOf K) cl_tupOf sc_tupOf (by rfl) B.tuple (by decide +kernel) (qa_cons (qv 2) qa_nil))))))), fun ds PP h => ?_⟩)
  · obtain ⟨n, rfl, _⟩ := h
    rfl
  · obtain ⟨n, rfl, n1, n6, k⟩ := h
    walk_at "ps"
    refine w_iRn (by omega) ?_
    refine lc_rel (List.range n) _ (fun _ p => ∃ z : Int, p = .int z ∧ (0 ≤ z ∧ z ≤ 5)) (by simp; omega) (fun a _ Q T hq => ?_) fun ds hd => ?_
    · walk_at "ps"
      refine w_draw (by decide) fun r r0 r1 => ?_
      walk_at "ps"
      refine w_pick (by simp) (by simp) fun z hz => hq z ?_
      simp only [List.mem_cons, List.mem_nil_iff, or_false] at hz
      rcases hz with rfl | rfl | rfl | rfl | rfl | rfl | rfl | rfl
      all_goals exact ⟨_, rfl, by omega, by omega⟩
    · obtain ⟨ns, rfl, hl, hb⟩ := all2_pick hd
      rw [List.length_range] at hl
      walk_at "ps"
      refine w_ifk (fun c => ?_) (fun c => ?_)
      · walk_at "ps"
        refine w_draw (by decide) fun r r0 r1 => ?_
        walk_at "ps"
        refine w_draw (by omega) fun q q0 q1 => ?_
        obtain ⟨j, rfl⟩ : ∃ j : Nat, q = (j : Int) := ⟨q.toNat, by omega⟩
        refine w_sixk2 (j := j) (ixN_n (by rw [List.length_map, hl]; omega)) ?_
        walk_at "ps"
        have e : (ns.map PyData.int).set j (.int (1 + r)) = (ns.set j (1 + r)).map .int := by rw [List.map_set]
        rw [e]
        refine k (ns.set j (1 + r)) (by simp [hl]) (fun x hx => ?_) ?_
        · rcases List.mem_or_eq_of_mem_set hx with hx | rfl
          · exact hb x hx
          · omega
        · refine sum_pos (x := 1 + r) (fun x hx => ?_) (List.mem_set (by omega) _) (by omega)
          rcases List.mem_or_eq_of_mem_set hx with hx | rfl
          · exact (hb x hx).1
          · omega
      · walk_at "ps"
        refine k ns hl hb ?_
        have := sum_nn fun x hx => (hb x hx).1
        have c' : ¬ ns.sum = 0 := fun z => by rw [show sEq (.int ns.sum) (.int 0) = decide (ns.sum = 0) from rfl, decide_eq_true z] at c; cases c
        omega
theorem ok_law_shuffled (B : Blt mg) {f : Addr} {fd : FuncData} (F : Fun K "_law_shuffled" "_law_shuffled" s_law_shuffled f fd) (c_law_draw : FnAt P w K mg base s_law_draw 1 "_law_draw" ["deck", "many"] (spP K psDraw)) :
    FG P w K mg base 2 f fd ["deck", "items"] (spP K psShuf) := by
  refine okP F sc_law_shuffled (fun ds PP XX h => ?_) (fun cdv A out s H E BB m0 XX gu hr lk => ⟨_, _, (qss_cons (qs_parOO (i := 2) (j := 3) (by rfl) sc_law_shuffled.nd rfl rfl (by decide) rfl rfl (qf_callTy (T := "list") (r := rListOf K) cl_listOf sc_listOf (by rfl) B.list (by decide +kernel) (qa_cons (qv 1) qa_nil)) (qf_lst qa_nil) (by rfl))
      (qss_cons (qs_for (passes_of rfl) rfl (qi_range1 rfl B.range (qa_cons (qe_callB (r := VB.rLen K) cl_len sc_len (by rfl) B.len (by decide +kernel) (qa_cons (qv 1) qa_nil)) qa_nil)) (qg_name (i := 4) sc_law_shuffled.nd rfl (.inl rfl))
        (qss_one (qs_appPop 3 2 (by decide) rfl (by first | exact .inl rfl | exact .inr (.inl rfl)) rfl (by first | exact .inl rfl | exact .inr (.inl rfl)) (qe_lend 2 (qe_c c_law_draw gu (hr.mono (by decide)) (fun σ => passN σ) lk0 (qa_cons (qv 0) (qa_cons (qe_callB (r := VB.rLen K) cl_len sc_len (by rfl) B.len (by decide +kernel) (qa_cons (qv 2) qa_nil)) qa_nil)))) (by decide) (by decide) (by decide) (by decide) (fun h => pe_bm PySem.F.plainAttrs_list PySem.F.slot_list_append PySem.F.type_list_append mt_append (pv 3) (pa_cons h pa_nil)) (pe_bm PySem.F.plainAttrs_list PySem.F.slot_list_pop PySem.F.type_list_pop mt_popAt (pv 2) (pa_cons (QE.p (B := BB) (m0 := m0) (qe_lend 2 (qe_c c_law_draw gu (hr.mono (by decide)) (fun σ => passN σ) lk0 (qa_cons (qv 0) (qa_cons (qe_callB (r := VB.rLen K) cl_len sc_len (by rfl) B.len (by decide +kernel) (qa_cons (qv 2) qa_nil)) qa_nil))))) pa_nil)))))
      (qss_one (qs_fz 3 (qs_ret (qv 3)))))), fun ds PP h => ?_⟩)
  · obtain ⟨n, rfl, _⟩ := h
    rfl
  · obtain ⟨xs, rfl, n6, k⟩ := h
    walk_at "ps"
    refine w_iRn (by omega) ?_
    refine for_inv (List.range xs.length) _ (fun i env => ∃ (y : D) (ls fs : List PyData), env = [.deck, .py (.list xs), .own ls, .own fs, y] ∧ (fs ++ ls).Perm xs ∧ fs.length = i) ⟨_, xs, [], rfl, .refl _, rfl⟩ (fun i a env hi h Nn hn => ?_) fun env h => ?_
    · obtain ⟨y, ls, fs, rfl, pm, lf⟩ := h
      have ll : fs.length + ls.length = xs.length := by rw [← List.length_append]; exact pm.length_eq
      have hi' : i < xs.length := by simpa using (List.getElem?_eq_some_iff.mp hi).1
      walk_at "ps"
      refine w_appPop rfl rfl (by omega) (by omega) ?_
      walk_at "ps"
      refine w_draw (by omega) fun r r0 r1 => ?_
      obtain ⟨j, rfl⟩ : ∃ j : Nat, r = (j : Int) := ⟨r.toNat, by omega⟩
      have hj : j < ls.length := by omega
      walk_at "ps"
      refine w_apk (List.getElem?_eq_getElem hj) ?_
      refine hn _ ⟨_, ls.eraseIdx j, fs ++ [ls[j]], rfl, ?_, by rw [List.length_append, lf]; rfl⟩
      refine List.Perm.trans ?_ pm
      rw [List.append_assoc]
      exact List.Perm.append_left fs (eraseD_perm hj)
    · obtain ⟨y, ls, fs, rfl, pm, lf⟩ := h
      have ll : fs.length + ls.length = xs.length := by rw [← List.length_append]; exact pm.length_eq
      have : ls = [] := List.length_eq_zero_iff.mp (by simp at lf; omega)
      subst this
      rw [List.append_nil] at pm
      walk_at "ps"
      exact k fs pm
theorem ok_law_chain (B : Blt mg) {f : Addr} {fd : FuncData} (F : Fun K "_law_chain" "_law_chain" s_law_chain f fd) (c_law_draw : FnAt P w K mg base s_law_draw 1 "_law_draw" ["deck", "many"] (spP K psDraw)) (c_law_shuffled : FnAt P w K mg base s_law_shuffled 2 "_law_shuffled" ["deck", "items"] (spP K psShuf)) (c_law_line : FnAt P w K mg base s_law_line 3 "_law_line" ["deck", "many"] (spP K psLine)) :
    FG P w K mg base 4 f fd ["deck", "states", "signs"] (spP K psChain) := by
  refine okP F sc_law_chain (fun ds PP XX h => ?_) (fun cdv A out s H E BB m0 XX gu hr lk => ⟨_, _, (qss_cons (qs_set 3 sc_law_chain.nd rfl (.inl rfl) (qe_join (K' := K) qe_str (qe_callB (r := rSortedS K) cr_sortedS sc_sortS (by rfl) B.sorted (by decide +kernel) (qa_cons (qe_slice (r := rSlL K) sl_list ss_slL (qe_c c_law_shuffled gu (hr.mono (by decide)) (fun σ => passN σ) lk0 (qa_cons (qv 0) (qa_cons (qe_F (qf_callTy (T := "list") (call_listS rfl) sc_listS (by rfl) B.list (by decide +kernel) (qa_cons qe_str qa_nil))) qa_nil))) qo_none (qo_some (qv 2))) qa_nil))))
      (qss_cons (qs_lcO 4 (ps_lcSet (i := 4) (own := [("state", 6)]) (g := (gName 6)) (js := [6]) (tt := tYes) (pt := pYes)  rfl sc_law_chain.nd rfl rfl (sw_true rfl rfl rfl (by decide +kernel)) (qi_range1 rfl B.range (qa_cons (qv 1) qa_nil)) (blkOk_by (own := [("state", 6)]) (N := ["deck", "states", "signs", "letters", "steps", "tells", "state"]) (sc := defScope s_law_chain) (by decide +kernel)) (fun _ _ _ _ _ => (qg_name (i := 6) sc_law_chain.nd rfl (by first | exact .inl rfl | exact .inr rfl))) (fun _ _ _ _ _ => qts_nil) (fun _ _ _ _ _ => (qe_c c_law_line gu (hr.mono (by decide)) (fun σ => passN σ) lk0 (qa_cons (qv 0) (qa_cons (qv 1) qa_nil))))))
      (qss_cons (qs_lcO 5 (ps_lcSet (i := 5) (own := [("state", 6)]) (g := (gName 6)) (js := [6]) (tt := tYes) (pt := pYes)  rfl sc_law_chain.nd rfl rfl (sw_true rfl rfl rfl (by decide +kernel)) (qi_range1 rfl B.range (qa_cons (qv 1) qa_nil)) (blkOk_by (own := [("state", 6)]) (N := ["deck", "states", "signs", "letters", "steps", "tells", "state"]) (sc := defScope s_law_chain) (by decide +kernel)) (fun _ _ _ _ _ => (qg_name (i := 6) sc_law_chain.nd rfl (by first | exact .inl rfl | exact .inr rfl))) (fun _ _ _ _ _ => qts_nil) (fun _ _ _ _ _ => (qe_c c_law_line gu (hr.mono (by decide)) (fun σ => passN σ) lk0 (qa_cons (qv 0) (qa_cons (qv 2) qa_nil))))))
      (qss_cons (qs_if (QW.qt (qw_and (qt_cmp op_gt (so_I0 (so_bl _)) (qv 1) qe_int (nomark _)) (qw_and1 (qt_cmp op_eq so_eq (qe_c c_law_draw gu (hr.mono (by decide)) (fun σ => passN σ) lk0 (qa_cons (qv 0) (qa_cons qe_int qa_nil))) qe_int (nomark _))))) (qss_cons (qs_setIx 5 rfl (by first | exact .inl rfl | exact .inr (.inl rfl)) (qe_ownIx (K' := K) 5 rfl (by first | exact .inl rfl | exact .inr (.inl rfl) | exact .inr (.inr rfl)) qe_int (fun _ _ => rfl)) qe_int)
      (qss_one (qs_setIx 4 rfl (by first | exact .inl rfl | exact .inr (.inl rfl)) (qe_ownIx (K' := K) 4 rfl (by first | exact .inl rfl | exact .inr (.inl rfl) | exact .inr (.inr rfl)) (qe_c c_law_draw gu (hr.mono (by decide)) (fun σ => passN σ) lk0 (qa_cons (qv 0) (qa_cons qe_int qa_nil))) (fun _ _ => rfl)) qe_int))) qss_nil)
      (qss_one (qs_fz 5 (qs_fz 4 (qs_ret (qe_tup (qa_cons (qv 3) (qa_cons (qe_c c_law_line gu (hr.mono (by decide)) (fun σ => passN σ) lk0 (qa_cons (qv 0) (qa_cons (qv 1) qa_nil))) (qa_cons (qe_callTy (T := "tuple") (r := rTupOf K) cl_tupOf sc_tupOf (by rfl) B.tuple (by decide +kernel) (qa_cons (qv 4) qa_nil)) (qa_cons (qe_callTy (T := "tuple") (r := rTupOf K) cl_tupOf sc_tupOf (by rfl) B.tuple (by decide +kernel) (qa_cons (qv 5) qa_nil)) qa_nil))))))))))))), fun ds PP h => ?_⟩)
  · obtain ⟨n, kk, rfl, _⟩ := h
    rfl
  · obtain ⟨n, kk, rfl, n1, n6, k1, k5, k⟩ := h
    walk_at "ps"
    refine ⟨"abcdemxyz", rfl, by decide, ?_⟩
    walk_at "ps"
    refine ⟨_, rfl, by decide, fun ys pm => ?_⟩
    obtain ⟨cs, rfl, pc⟩ := perm_sgD (l := pool) pm
    walk_at "ps"
    have ec : cutD (cs.map sgD) none (some (kk : Int)) = ((cs.take kk).map sg1).map PyData.str := by rw [cutD_take, ← List.map_take, List.map_map]; rfl
    rw [ec]
    refine ⟨(cs.take kk).map sg1, rfl, ?_, fun zs pz so => ?_⟩
    · have := pc.length_eq
      simp only [List.length_map, List.length_take, pool, List.length_cons, List.length_nil] at this ⊢
      omega
    obtain ⟨es, rfl, pe⟩ := perm_sgS pz
    have hs := pool_sgs pc (by omega) pe so
    have lt : (cs.take kk).length = kk := by
      have := pc.length_eq
      simp only [List.length_take, pool, List.length_cons, List.length_nil] at this ⊢
      omega
    have le := pe.length_eq
    refine w_jnk2 rfl ?_ ?_
    · have e1 : ∀ l : List Nat, ((l.map sg1).map fun x => x.length).sum = l.length := by
        intro l
        induction l with
        | nil => rfl
        | cons a r ih => rw [List.map_cons, List.map_cons, List.sum_cons, ih, List.length_cons]; show 1 + r.length = _; omega
      rw [e1]
      show es.length + _ * 0 ≤ 16777216
      omega
    have hs : Sgs kk (Txt.join (Str.ofString "") (es.map sg1)) := hs
    generalize Txt.join (Str.ofString "") (es.map sg1) = Z at hs ⊢
    walk_at "ps"
    refine w_iRn (by omega) ?_
    refine lc_rel (List.range n) _ (fun _ p => ∃ ns : List Int, p = lnD ns ∧ Lin 3 n ns) (by simp; omega) (fun a _ Q T hq => ?_) fun ds hd => ?_
    · walk_at "ps"
      exact ⟨n, rfl, n1, n6, fun ns hl hb hs => hq _ ⟨ns, rfl, lin3 hl hb hs⟩⟩
    obtain ⟨L, rfl, hL, sL⟩ := all2_pick hd
    rw [List.length_range] at hL
    walk_at "ps"
    refine w_iRn (by omega) ?_
    refine lc_rel (List.range n) _ (fun _ p => ∃ ns : List Int, p = lnD ns ∧ Lin 3 kk ns) (by simp; omega) (fun a _ Q T hq => ?_) fun dt hdt => ?_
    · walk_at "ps"
      exact ⟨kk, rfl, k1, by omega, fun ns hl hb hs => hq _ ⟨ns, rfl, lin3 hl hb hs⟩⟩
    obtain ⟨M, rfl, hM, sM⟩ := all2_pick hdt
    rw [List.length_range] at hM
    with_reducible refine w_cut (fun env => ∃ L M : List (List Int), env = [.deck, .py (.int n), .py (.int kk), .py (.str Z), .own (L.map lnD), .own (M.map lnD), .no] ∧ L.length = n ∧ M.length = n ∧ (∀ l ∈ L, Lin 3 n l) ∧ ∀ l ∈ M, Lin 3 kk l) (fun env h => ?_) fun N hN => ?_
    · obtain ⟨L, M, rfl, hL, hM, sL, sM⟩ := h
      walk_at "ps"
      refine ⟨n, rfl, n1, n6, fun ns hl hb hs2 => ?_⟩
      walk_at "ps"
      exact k ⟨Z, ns, L, M⟩ ⟨n1, n6, k1, k5, hs, lin3 hl hb hs2, ⟨hL, sL⟩, ⟨hM, sM⟩⟩
    · refine w_if ?_
      refine w_cutT (fun c => c = false ∨ 1 < n) (fun c hc => ?_) fun N2 hN2 => ?_
      · refine w_ifk (fun c1 => ?_) (fun c1 => ?_)
        · have n2 : 1 < n := hc.elim (fun z => by rw [z] at c1; cases c1) id
          walk_at "ps"
          refine w_oixk (n := 1) (atI_map (j := 1) lnD (List.getElem?_eq_getElem (by omega))) ?_
          walk_at "ps"
          refine w_sixk2 (j := 0) (ixN_n (n := (M.map lnD).length) (j := 0) (by rw [List.length_map]; omega)) ?_
          walk_at "ps"
          refine w_draw (by decide) fun r r0 r1 => ?_
          obtain ⟨j, rfl⟩ : ∃ j : Nat, r = (j : Int) := ⟨r.toNat, by omega⟩
          walk_at "ps"
          refine w_oixk (n := j) (atI_map (j := j) lnD (List.getElem?_eq_getElem (by omega))) ?_
          walk_at "ps"
          refine w_sixk2 (j := 0) (ixN_n (n := (L.map lnD).length) (j := 0) (by rw [List.length_map]; omega)) ?_
          walk_at "ps"
          refine hN _ ⟨L.set 0 L[j], M.set 0 M[1], by rw [List.map_set, List.map_set]; rfl, by simp [hL], by simp [hM], fun l hl => ?_, fun l hl => ?_⟩
          · rcases List.mem_or_eq_of_mem_set hl with hl | rfl
            · exact sL l hl
            · exact sL _ (List.getElem_mem _)
          · rcases List.mem_or_eq_of_mem_set hl with hl | rfl
            · exact sM l hl
            · exact sM _ (List.getElem_mem _)
        · walk_at "ps"
          exact hN _ ⟨L, M, rfl, hL, hM, sL, sM⟩
      · walk_at "ps"
        refine w_andk (fun c => ?_) (fun c => ?_)
        · have n2 : 1 < n := by have := of_decide_eq_true c; omega
          walk_at "ps"
          refine w_draw (by decide) fun r r0 r1 => ?_
          walk_at "ps"
          exact hN2 _ (.inr n2)
        · exact hN2 _ (.inl rfl)
theorem ok_law_view (B : Blt mg) {f : Addr} {fd : FuncData} (F : Fun K "_law_view" "_law_view" s_law_view f fd) (c_law_pick : FnAt P w K mg base s_law_pick 2 "_law_pick" ["deck", "items"] (spP K psPick)) :
    FG P w K mg base 3 f fd ["deck", "signs", "length", "is_gapped"] (spP K psView) := by
  refine okP F sc_law_view (fun ds PP XX h => ?_) (fun cdv A out s H E BB m0 XX gu hr lk => ⟨_, _, (qss_cons (qs_set 4 sc_law_view.nd rfl (.inr rfl) (qe_ifE (qt_val (qv 3)) (qe_op op_cat so_catL (qe_op op_rep so_repL (qe_F (qf_callTy (T := "list") (call_listS rfl) sc_listS (by rfl) B.list (by decide +kernel) (qa_cons (qv 1) qa_nil))) qe_int) (qe_F (qf_lst (qa_cons qe_str qa_nil)))) (qe_F (qf_callTy (T := "list") (call_listS rfl) sc_listS (by rfl) B.list (by decide +kernel) (qa_cons (qv 1) qa_nil)))))
      (qss_one (qs_ret (qe_join (K' := K) qe_str (qe_F (qf_lc (own := [("turn", 5)]) (g := (gName 5)) (js := [5]) (tt := tYes) (pt := pYes)  rfl sc_law_view.nd (qi_range1 rfl B.range (qa_cons (qv 2) qa_nil)) (blkOk_by (own := [("turn", 5)]) (N := ["deck", "signs", "length", "is_gapped", "items", "turn"]) (sc := defScope s_law_view) (by decide +kernel)) (fun _ _ _ _ _ => (qg_name (i := 5) sc_law_view.nd rfl (by first | exact .inl rfl | exact .inr rfl))) (fun _ _ _ _ _ => qts_nil) (fun _ _ _ _ _ => (qe_c c_law_pick gu (hr.mono (by decide)) (fun σ => passN σ) lk0 (qa_cons (qv 0) (qa_cons (qv 4) qa_nil)))))))))), fun ds PP h => ?_⟩)
  · obtain ⟨sg, kk, L, g, rfl, _⟩ := h
    rfl
  · obtain ⟨sg, kk, L, g, rfl, hs, k1, k5, l41, k⟩ := h
    with_reducible refine w_seq ?_
    with_reducible refine w_set ?_
    have lsg := hs.len
    have szs : sg.cps.size ≤ sizeLine := by
      have : sg.cps.size = sg.cps.toList.length := by simp
      rw [this, lsg]
      exact Nat.le_trans k5 (by decide)
    refine w_cutE (fun d => ∃ cs : List Nat, d = .py (.list (cs.map sgD)) ∧ 0 < cs.length ∧ cs.length ≤ 1000 ∧ ∀ a ∈ cs, a = 46 ∨ a ∈ sg.cps.toList) (fun d hd => ?_) fun N hN => ?_
    · obtain ⟨cs, rfl, c0, c1, hc⟩ := hd
      walk_at "ps"
      refine w_iRn (by omega) ?_
      refine lc_rel (List.range L) _ (fun _ p => ∃ a, p = sgD a ∧ (a = 46 ∨ a ∈ sg.cps.toList)) (by simp; omega) (fun t _ Q T hq => ?_) fun ds hd => ?_
      · walk_at "ps"
        refine w_pick (by rw [List.length_map]; exact c0) (by rw [List.length_map]; exact c1) fun z hz => ?_
        obtain ⟨a, ha, rfl⟩ := List.mem_map.mp hz
        exact hq _ ⟨a, rfl, hc a ha⟩
      · obtain ⟨as, rfl, la, sa⟩ := all2_pick hd
        rw [List.length_range] at la
        have e : as.map sgD = (as.map sg1).map PyData.str := by rw [List.map_map]; rfl
        rw [e]
        refine w_jnk2 rfl ?_ ?_
        · have e1 : ∀ l : List Nat, ((l.map sg1).map fun x => x.length).sum = l.length := by
            intro l
            induction l with
            | nil => rfl
            | cons a r ih => rw [List.map_cons, List.map_cons, List.sum_cons, ih, List.length_cons]; show 1 + r.length = _; omega
          rw [e1]
          show as.length + _ * 0 ≤ 16777216
          omega
        · refine k _ ⟨fun a ha => ?_, ?_, l41⟩
          · have : a ∈ as := by
              rw [show (Txt.join (Str.ofString "") (as.map sg1)).cps.toList = as from join_cps as] at ha
              exact ha
            exact sa a this
          · rw [show (Txt.join (Str.ofString "") (as.map sg1)).cps.toList = as from join_cps as]
            exact la
    · walk_at "ps"
      refine w_ifEk (fun cg => ?_) (fun cg => ?_)
      · walk_at "ps"
        refine ⟨sg, rfl, szs, ?_⟩
        walk_at "ps"
        generalize sg.cps.toList = S at *
        refine ⟨_, 2, rfl, rfl, by rw [List.length_map]; omega, by rw [List.length_map, show (2 : Int).toNat = 2 from rfl]; omega, by decide, by decide, ?_⟩
        walk_at "ps"
        have e : (List.replicate (2 : Int).toNat (S.map sgD)).flatten = (S ++ S).map sgD := by
          rw [show (2 : Int).toNat = 2 from rfl, List.map_append]
          show S.map sgD ++ (S.map sgD ++ []) = _
          rw [List.append_nil]
        rw [e]
        refine w_catL rfl rfl (by rw [List.length_map, List.length_append]; show _ + 1 ≤ _; omega) ?_
        refine hN _ ⟨S ++ S ++ [46], ?_, by rw [List.length_append]; show 0 < _ + 1; omega, by rw [List.length_append, List.length_append]; show _ + 1 ≤ _; omega, fun a ha => ?_⟩
        · have e3 : (S ++ S ++ [46]).map sgD = (S ++ S).map sgD ++ [sgD 46] := List.map_append
          rw [e3]
          rfl
        · rcases List.mem_append.mp ha with ha | ha
          · exact .inr ((List.mem_append.mp ha).elim id id)
          · exact .inl (List.mem_singleton.mp ha)
      · walk_at "ps"
        refine ⟨sg, rfl, szs, ?_⟩
        exact hN _ ⟨sg.cps.toList, rfl, by omega, by omega, fun a ha => .inr ha⟩
structure OdS (z : Str) : Prop where
  len : z.length ≤ 800
  ch : ∀ c ∈ z.cps.toList, c < 128
theorem fb_txt {z : Str} (h : OdS z) : Fb 8002 0 (.str z) := fb_str (Nat.le_trans (StrLaws.reprText_len z fun c hc => Nat.lt_of_lt_of_le (h.ch c hc) (by decide)) (by have := h.len; omega))
structure Od (p : PyData) : Prop where
  fit : Fb 1000000 20 p
  str : ∀ z, p = .str z → OdS z
  tup : ∀ ds, p = .tuple ds → ds.length ≤ 500
theorem occ_one (x : Str) (a : Nat) : (Builtin.Str.occurrences x ⟨#[a]⟩ 0 x.length 1).isEmpty = !decide (a ∈ x.cps.toList) := by
  show (Builtin.Str.occurrences x (sg1 a) 0 x.length 1).isEmpty = _
  have key := StrLaws.found_iff x (sg1 a)
  have e1 : (sg1 a).length = 1 := rfl
  have e2 : (sg1 a).cps.toList = [a] := rfl
  have xl : x.length = x.cps.toList.length := str_len x
  by_cases h : a ∈ x.cps.toList
  · obtain ⟨i, hi, ea⟩ := List.mem_iff_getElem.mp h
    have := key.mpr ⟨i, by rw [e1]; omega, by
      rw [StrLaws.subAt_eq, e1, e2, List.drop_eq_getElem_cons hi, ea]
      exact beq_self_eq_true _⟩
    rw [decide_eq_true h]
    cases q : (Builtin.Str.occurrences x (sg1 a) 0 x.length 1).isEmpty with
    | true => rw [q] at this; cases this
    | false => rfl
  · rw [decide_eq_false h]
    cases q : (Builtin.Str.occurrences x (sg1 a) 0 x.length 1).isEmpty with
    | true => rfl
    | false =>
      obtain ⟨i, hi, hs⟩ := key.mp (by rw [q]; rfl)
      rw [StrLaws.subAt_eq, e1, e2] at hs
      have hs := eq_of_beq hs
      exact absurd (List.mem_of_mem_drop (List.mem_of_mem_take (show a ∈ (x.cps.toList.drop i).take 1 by rw [hs]; simp))) h
theorem nat_dec (a b : Nat) : sEq (.int (a : Nat)) (.int (b : Nat)) = decide (a = b) := by
  show decide (((a : Nat) : Int) = ((b : Nat) : Int)) = _
  by_cases e : a = b
  · rw [decide_eq_true e, decide_eq_true (by omega)]
  · rw [decide_eq_false e, decide_eq_false (by omega)]
/-- the place of the first that is wrong -/
def fbad {α : Type} (bad : α → Bool) : List α → Nat → Option Nat
  | [], _ => none
  | a :: l, i => if bad a = true then some i else fbad bad l (i + 1)
theorem fbad_step {α : Type} {bad : α → Bool} {l : List α} {i : Nat} {a : α} (h : l[i]? = some a) (e : fbad bad l 0 = fbad bad (l.drop i) i) : (bad a = true → fbad bad l 0 = some i) ∧ (bad a = false → fbad bad l 0 = fbad bad (l.drop (i + 1)) (i + 1)) := by
  have hi := (List.getElem?_eq_some_iff.mp h).1
  have ea := (List.getElem?_eq_some_iff.mp h).2
  rw [List.drop_eq_getElem_cons hi, ea] at e
  refine ⟨fun b => ?_, fun b => ?_⟩
  · rw [e]
    unfold fbad
    rw [if_pos b]
  · rw [e]
    conv => lhs; unfold fbad
    rw [if_neg (by rw [b]; decide)]
theorem fbad_end {α : Type} {bad : α → Bool} {l : List α} {i : Nat} (h : l.length ≤ i) (e : fbad bad l 0 = fbad bad (l.drop i) i) : fbad bad l 0 = none := by
  rw [e, List.drop_of_length_le h]
  rfl
theorem fbad_lt {α : Type} {bad : α → Bool} : ∀ {l : List α} {i j : Nat}, fbad bad l i = some j → j < i + l.length
  | [], _, _, h => by cases h
  | a :: l, i, j, h => by
    unfold fbad at h
    split at h
    · cases h
      rw [List.length_cons]
      omega
    · have := fbad_lt h
      rw [List.length_cons]
      omega
def whereD (w : Str) : Option Nat → PyData
  | none => .none
  | some i => .tuple [.str w, .int (i : Nat)]
def cBad (sg : Str) (c : Nat) : Bool := !decide (c = 46) && !decide (c ∈ sg.cps.toList)
def veD (sg : Str) : PyData → PyData
  | .str z => if 40 < z.length then .str "form" else whereD "sign" (fbad (cBad sg) z.cps.toList 0)
  | _ => .str "form"
def wBad (n : Nat) : PyData → Bool
  | .int i => !(decide (0 ≤ i) && decide (i < (n : Int)))
  | _ => true
def ceD (n L : Nat) : PyData → PyData
  | .tuple ds => if ds.length ≠ L then .str "form" else whereD "state" (fbad (wBad n) ds 0)
  | _ => .str "form"
theorem where_fb {w : Str} {o : Option Nat} (hw : (reprText w).length ≤ 100) (h : ∀ j, o = some j → j < 2 ^ 20) : Fb 1000 1 (whereD w o) := by
  cases o with
  | none => exact fb_none.mono (by decide) (by decide)
  | some j =>
    have := h j rfl
    exact (fb_tup (fba_cons (fb_str hw) (fba_cons (fb_int (k := 20) (by show ((j : Nat) : Int).natAbs < 2 ^ 20; omega) (by decide) (by decide)) fba_nil))).mono (by decide) (by decide)
theorem ve_fb {sg : Str} {p : PyData} (h : Od p) : Fb 1000 1 (veD sg p) := by
  have f : Fb 1000 1 (.str "form") := (fb_str (w := 100) (by decide +kernel)).mono (by decide) (by decide)
  cases p with
  | str z =>
    show Fb 1000 1 (if 40 < z.length then PyData.str "form" else whereD "sign" (fbad (cBad sg) z.cps.toList 0))
    split
    · exact f
    · refine where_fb (w := "sign") (by decide +kernel) fun j hj => ?_
      have := fbad_lt hj
      have := (h.str z rfl).len
      rw [str_len] at this
      omega
  | none => exact f
  | bool _ => exact f
  | int _ => exact f
  | list _ => exact f
  | tuple _ => exact f
  | dict _ => exact f
theorem ce_fb {n L : Nat} {p : PyData} (h : Od p) : Fb 1000 1 (ceD n L p) := by
  have f : Fb 1000 1 (.str "form") := (fb_str (w := 100) (by decide +kernel)).mono (by decide) (by decide)
  cases p with
  | tuple ds =>
    show Fb 1000 1 (if ds.length ≠ L then PyData.str "form" else whereD "state" (fbad (wBad n) ds 0))
    split
    · exact f
    · refine where_fb (w := "state") (by decide +kernel) fun j hj => ?_
      have := fbad_lt hj
      have := h.tup ds rfl
      omega
  | none => exact f
  | bool _ => exact f
  | int _ => exact f
  | list _ => exact f
  | str _ => exact f
  | dict _ => exact f
def psWh : VP.PSp := fun ds P _ => ∃ p : PyData, ds = [.py p] ∧ P (.py (.bool (isWh p)))
theorem ok_is_whole (B : Blt mg) {f : Addr} {fd : FuncData} (F : Fun K "is_whole" "is_whole" s_is_whole f fd) :
    FG P w K mg base 1 f fd ["value"] (spP K psWh) := by
  refine okP F sc_is_whole (fun ds PP XX h => ?_) (fun cdv A out s H E BB m0 XX gu hr lk => ⟨_, _, (qss_one (qs_ret (qe_and (qe_callB (r := rIsi K) call_isi sc_isi (by rfl) B.isinstance (by decide +kernel) (qa_cons (qv 0) (qa_cons (qe_bty (T := "int") B.int (by decide +kernel)) qa_nil))) (qe_one (qe_notV (qe_callB (r := rIsi K) call_isi sc_isi (by rfl) B.isinstance (by decide +kernel) (qa_cons (qv 0) (qa_cons (qe_bty (T := "bool") B.bool (by decide +kernel)) qa_nil)))))))), fun ds PP h => ?_⟩)
  · obtain ⟨p, rfl, _⟩ := h
    rfl
  · obtain ⟨p, rfl, k⟩ := h
    walk_at "ps"
    rw [isWh_eq] at k
    refine w_andVk (fun q => ?_) (fun q => ?_)
    · walk_at "ps"
      rw [q] at k
      exact k
    · rw [q] at k
      exact k
def psVE : VP.PSp := fun ds P _ => ∃ (c : Ch) (b n k : Nat) (p : PyData), ds = [.py (chD c), .py p] ∧ ChOk b n k c ∧ Od p ∧ P (.py (veD c.sg p))
theorem ok_view_error (B : Blt mg) {tg tr : Tok} (M_GAP : mg "GAP" = some (.str "." tg)) (M_MAX_ROW : mg "MAX_ROW" = some (.int 40 tr)) {f : Addr} {fd : FuncData} (F : Fun K "view_error" "view_error" s_view_error f fd) :
    FG P w K mg base 1 f fd ["chain", "value"] (spP K psVE) := by
  refine okP F sc_view_error (fun ds PP XX h => ?_) (fun cdv A out s H E BB m0 XX gu hr lk => ⟨_, _, (qss_cons (qs_if (QW.qt (qw_or (qt_not (qt_val (qe_callB (r := rIsi K) call_isi sc_isi (by rfl) B.isinstance (by decide +kernel) (qa_cons (qv 1) (qa_cons (qe_bty (T := "str") B.str (by decide +kernel)) qa_nil))))) (qw_or1 (qt_cmp op_gt (so_I0 (so_bl _)) (qe_callB call_len_str sc_lenS (by rfl) B.len (by decide +kernel) (qa_cons (qv 1) qa_nil)) (qe_globI M_MAX_ROW) (nomark _))))) (qss_one (qs_ret qe_str)) qss_nil)
      (qss_cons (qs_for (passes_of rfl) rfl (qi_enum (K' := K) (by rfl) B.enumerate (qa_cons (qv 1) qa_nil)) (qg_tup rfl (qgs_cons (qg_name (i := 2) sc_view_error.nd rfl (.inl rfl)) (qgs_cons (qg_name (i := 3) sc_view_error.nd rfl (.inl rfl)) qgs_nil)))
        (qss_one (qs_if (QW.qt (qw_and (qt_cmp op_ne so_ne (qv 3) (qe_globS M_GAP) (nomark _)) (qw_and1 (qt_cmp op_notin_str so_S (qv 3) (qe_ix (r := rIxT K) ix_tup so_ixT (qv 0) qe_int (fun _ _ => rfl)) (by rfl))))) (qss_one (qs_ret (qe_tup (qa_cons qe_str (qa_cons (qv 2) qa_nil))))) qss_nil)))
      (qss_one (qs_ret qe_non)))), fun ds PP h => ?_⟩)
  · obtain ⟨c, b, n, k, p, rfl, _⟩ := h
    rfl
  · obtain ⟨c, b, n, kk, p, rfl, hc, od, k⟩ := h
    walk_at "ps"
    by_cases hs : ∃ z, p = .str z
    · obtain ⟨z, rfl⟩ := hs
      have oz := od.str z rfl
      have zl := str_len z
      refine w_ork (fun q => by cases q) (fun _ => ?_)
      walk_at "ps"
      refine w_lenS rfl (by have := oz.len; exact Nat.le_trans this (by decide)) ?_
      walk_at "ps"
      refine w_ifk (fun q => ?_) (fun q => ?_)
      · have q : 40 < z.length := by have := of_decide_eq_true q; omega
        rw [show veD c.sg (.str z) = .str "form" from if_pos q] at k
        walk_at "ps"
        exact k
      · have q : ¬ 40 < z.length := by have := of_decide_eq_false q; omega
        rw [show veD c.sg (.str z) = whereD "sign" (fbad (cBad c.sg) z.cps.toList 0) from if_neg q] at k
        walk_at "ps"
        refine for_num z.cps.toList sgD (fun i env => ∃ (y1 y2 : D), env = [.py (chD c), .py (.str z), y1, y2] ∧ fbad (cBad c.sg) z.cps.toList 0 = fbad (cBad c.sg) (z.cps.toList.drop i) i) ⟨_, _, rfl, rfl⟩ (fun i a env hi h Nn hn => ?_) fun env h => ?_
        · obtain ⟨y1, y2, rfl, e⟩ := h
          obtain ⟨s1, s2⟩ := fbad_step hi e
          walk_at "ps"
          rw [dot_dec]
          refine w_andk (fun q1 => ?_) (fun q1 => ?_)
          · walk_at "ps"
            refine w_ixT rfl rfl (z := .str c.sg) rfl ?_
            walk_at "ps"
            rw [occ_one]
            refine w_ifk (fun q2 => ?_) (fun q2 => ?_)
            · have b1 : cBad c.sg a = true := by
                unfold cBad
                rw [q1]
                simpa using q2
              rw [s1 b1] at k
              walk_at "ps"
              exact k
            · have b1 : cBad c.sg a = false := by
                unfold cBad
                rw [q1]
                simpa using q2
              walk_at "ps"
              exact hn _ ⟨_, _, rfl, s2 b1⟩
          · have b1 : cBad c.sg a = false := by
              unfold cBad
              rw [q1]
              rfl
            refine w_no rfl ?_
            walk_at "ps"
            exact hn _ ⟨_, _, rfl, s2 b1⟩
        · obtain ⟨y1, y2, rfl, e⟩ := h
          rw [fbad_end (Nat.le_refl _) e] at k
          walk_at "ps"
          exact k
    · have e : isStr p = false := by
        cases p with
        | str z => exact absurd ⟨z, rfl⟩ hs
        | _ => rfl
      rw [show veD c.sg p = .str "form" from by
        cases p with
        | str z => exact absurd ⟨z, rfl⟩ hs
        | _ => rfl] at k
      rw [e]
      refine w_ork (fun _ => ?_) (fun q => by cases q)
      walk_at "ps"
      exact k
def psCE : VP.PSp := fun ds P _ => ∃ (c : Ch) (b n k L : Nat) (z : Str) (p : PyData), ds = [.py (chD c), .py (.str z), .py p] ∧ ChOk b n k c ∧ z.length = L ∧ L ≤ 100 ∧ Od p ∧ P (.py (ceD n L p))
theorem ok_course_error (B : Blt mg) {f : Addr} {fd : FuncData} (F : Fun K "course_error" "course_error" s_course_error f fd) (c_is_whole : FnAt P w K mg base s_is_whole 1 "is_whole" ["value"] (spP K psWh)) :
    FG P w K mg base 2 f fd ["chain", "view", "value"] (spP K psCE) := by
  refine okP F sc_course_error (fun ds PP XX h => ?_) (fun cdv A out s H E BB m0 XX gu hr lk => ⟨_, _, (qss_cons (qs_if (QW.qt (qw_or (qt_not (qt_val (qe_callB (r := rIsi K) call_isi sc_isi (by rfl) B.isinstance (by decide +kernel) (qa_cons (qv 2) (qa_cons (qe_bty (T := "tuple") B.tuple (by decide +kernel)) qa_nil))))) (qw_or1 (qt_cmp op_ne so_ne (qe_callB (r := VB.rLen K) cl_len sc_len (by rfl) B.len (by decide +kernel) (qa_cons (qv 2) qa_nil)) (qe_callB call_len_str sc_lenS (by rfl) B.len (by decide +kernel) (qa_cons (qv 1) qa_nil)) (nomark _))))) (qss_one (qs_ret qe_str)) qss_nil)
      (qss_cons (qs_set 3 sc_course_error.nd rfl (.inl rfl) (qe_callB (r := VB.rLen K) cl_len sc_len (by rfl) B.len (by decide +kernel) (qa_cons (qe_ix (r := rIxT K) ix_tup so_ixT (qv 0) qe_int (fun _ _ => rfl)) qa_nil)))
      (qss_cons (qs_for (passes_of rfl) rfl (qi_enum (K' := K) (by rfl) B.enumerate (qa_cons (qv 2) qa_nil)) (qg_tup rfl (qgs_cons (qg_name (i := 4) sc_course_error.nd rfl (.inl rfl)) (qgs_cons (qg_name (i := 5) sc_course_error.nd rfl (.inl rfl)) qgs_nil)))
        (qss_one (qs_if (QW.qt (qw_or (qt_not (qt_val (qe_c c_is_whole gu (hr.mono (by decide)) (fun σ => passN σ) lk0 (qa_cons (qv 5) qa_nil)))) (qw_or1 (qt_not (qt_chain op_le (so_I0 (so_bl _)) op_lt (so_I0 (so_bl _)) qe_int (qv 5) (qv 3)))))) (qss_one (qs_ret (qe_tup (qa_cons qe_str (qa_cons (qv 4) qa_nil))))) qss_nil)))
      (qss_one (qs_ret qe_non))))), fun ds PP h => ?_⟩)
  · obtain ⟨c, b, n, k, L, z, p, rfl, _⟩ := h
    rfl
  · obtain ⟨c, b, n, kk, L, z, p, rfl, hc, zl, l1, od, k⟩ := h
    have lst : c.st.length = n := hc.st.len
    walk_at "ps"
    by_cases hs : ∃ es, p = .tuple es
    · obtain ⟨es, rfl⟩ := hs
      have ol := od.tup es rfl
      refine w_ork (fun q => by cases q) (fun _ => ?_)
      walk_at "ps"
      refine w_lenS rfl (by rw [zl]; exact Nat.le_trans l1 (by decide)) ?_
      rw [zl]
      walk_at "ps"
      rw [nat_dec]
      refine w_ifk (fun q => ?_) (fun q => ?_)
      · have q : es.length ≠ L := by simpa using q
        rw [show ceD n L (.tuple es) = .str "form" from if_pos q] at k
        walk_at "ps"
        exact k
      · have q : ¬ es.length ≠ L := by simpa using q
        rw [show ceD n L (.tuple es) = whereD "state" (fbad (wBad n) es 0) from if_neg q] at k
        walk_at "ps"
        refine w_ixT rfl rfl (z := lnD c.st) rfl ?_
        walk_at "ps"
        rw [show (c.st.map PyData.int).length = n from by rw [List.length_map, lst]]
        rw [show numD es = numD (es.map fun d => d) from by rw [List.map_id']]
        refine for_num es (fun d => d) (fun i env => ∃ (y1 y2 : D), env = [.py (chD c), .py (.str z), .py (.tuple es), .py (.int (n : Nat)), y1, y2] ∧ fbad (wBad n) es 0 = fbad (wBad n) (es.drop i) i) ⟨_, _, rfl, rfl⟩ (fun i a env hi h Nn hn => ?_) fun env h => ?_
        · obtain ⟨y1, y2, rfl, e⟩ := h
          obtain ⟨s1, s2⟩ := fbad_step hi e
          walk_at "ps"
          refine ⟨a, rfl, ?_⟩
          walk_at "ps"
          refine w_ork (fun q => ?_) (fun q => ?_)
          · have b1 : wBad n a = true := by
              cases a with
              | int v => cases q
              | _ => rfl
            rw [s1 b1] at k
            refine w_ifk (fun _ => ?_) (fun q => by cases q)
            walk_at "ps"
            exact k
          · obtain ⟨v, rfl⟩ : ∃ v, a = .int v := by
              cases a with
              | int v => exact ⟨v, rfl⟩
              | _ => cases q
            have bv : ∀ x : Bool, x = (decide (0 ≤ v) && decide (v < (n : Int))) → wBad n (.int v) = !x := fun x hx => by rw [hx]; rfl
            walk_at "ps"
            refine w_chnk (fun q1 => ?_) (fun q1 => ?_)
            · walk_at "ps"
              have b1 := bv (decide (v < (n : Int))) (by rw [q1]; rfl)
              refine w_ifk (fun q2 => ?_) (fun q2 => ?_)
              · rw [s1 (b1.trans q2)] at k
                walk_at "ps"
                exact k
              · walk_at "ps"
                exact hn _ ⟨_, _, rfl, s2 (b1.trans q2)⟩
            · have b1 := bv false (by rw [q1]; rfl)
              rw [s1 b1] at k
              walk_at "ps"
              refine w_ifk (fun _ => ?_) (fun q => by cases q)
              walk_at "ps"
              exact k
        · obtain ⟨y1, y2, rfl, e⟩ := h
          rw [fbad_end (Nat.le_refl _) e] at k
          walk_at "ps"
          exact k
    · have e : isTup p = false := by
        cases p with
        | tuple z => exact absurd ⟨z, rfl⟩ hs
        | _ => rfl
      rw [show ceD n L p = .str "form" from by
        cases p with
        | tuple z => exact absurd ⟨z, rfl⟩ hs
        | _ => rfl] at k
      rw [e]
      refine w_ork (fun _ => ?_) (fun q => by cases q)
      walk_at "ps"
      exact k
def lwhB (a b : Int) : PyData → Bool
  | .int i => decide (a ≤ i) && decide (i ≤ b)
  | _ => false
def psLWh : VP.PSp := fun ds P _ => ∃ (p : PyData) (a b : Int), ds = [.py p, .py (.int a), .py (.int b)] ∧ P (.py (.bool (lwhB a b p)))
theorem ok_law_is_whole (B : Blt mg) {f : Addr} {fd : FuncData} (F : Fun K "_law_is_whole" "_law_is_whole" s_law_is_whole f fd) :
    FG P w K mg base 1 f fd ["value", "low", "high"] (spP K psLWh) := by
  refine okP F sc_law_is_whole (fun ds PP XX h => ?_) (fun cdv A out s H E BB m0 XX gu hr lk => ⟨_, _, (qss_one (qs_ret (qe_and (qe_callB (r := rIsi K) call_isi sc_isi (by rfl) B.isinstance (by decide +kernel) (qa_cons (qv 0) (qa_cons (qe_bty (T := "int") B.int (by decide +kernel)) qa_nil))) (qe_and (qe_notV (qe_callB (r := rIsi K) call_isi sc_isi (by rfl) B.isinstance (by decide +kernel) (qa_cons (qv 0) (qa_cons (qe_bty (T := "bool") B.bool (by decide +kernel)) qa_nil)))) (qe_one (qe_chain op_le (so_I0 (so_bl _)) op_le (so_I0 (so_bl _)) (qv 1) (qv 0) (qv 2))))))), fun ds PP h => ?_⟩)
  · obtain ⟨p, a, b, rfl, _⟩ := h
    rfl
  · obtain ⟨p, a, b, rfl, k⟩ := h
    walk_at "ps"
    by_cases hw : isWh p = true
    · obtain ⟨v, rfl⟩ : ∃ v, p = .int v := by
        cases p with
        | int v => exact ⟨v, rfl⟩
        | _ => cases hw
      refine w_andVk (fun _ => ?_) (fun q => by cases q)
      walk_at "ps"
      refine w_andVk (fun _ => ?_) (fun q => by cases q)
      walk_at "ps"
      refine w_chnk (fun q1 => ?_) (fun q1 => ?_)
      · walk_at "ps"
        rw [show lwhB a b (.int v) = decide (v ≤ b) from by show (decide (a ≤ v) && _) = _; rw [q1]; rfl] at k
        exact k
      · rw [show lwhB a b (.int v) = false from by show (decide (a ≤ v) && _) = _; rw [q1]; rfl] at k
        exact k
    · have hf : isWh p = false := by
        cases h : isWh p with
        | true => exact absurd h hw
        | false => rfl
      rw [show lwhB a b p = false from by
        cases p with
        | int v => cases hf
        | _ => rfl] at k
      refine w_andVk (fun q => ?_) (fun _ => k)
      walk_at "ps"
      have e2 : (!isBoolB p) = false := by rw [isWh_eq, q] at hf; simpa using hf
      rw [e2]
      refine w_andVk (fun q => by cases q) (fun _ => k)
def psVD : VP.PSp := psVE
theorem ok_law_view_due (B : Blt mg) {f : Addr} {fd : FuncData} (F : Fun K "_law_view_due" "_law_view_due" s_law_view_due f fd) :
    FG P w K mg base 1 f fd ["chain", "value"] (spP K psVE) := by
  refine okP F sc_law_view_due (fun ds PP XX h => ?_) (fun cdv A out s H E BB m0 XX gu hr lk => ⟨_, _, (qss_cons (qs_if (QW.qt (qw_or (qt_not (qt_val (qe_callB (r := rIsi K) call_isi sc_isi (by rfl) B.isinstance (by decide +kernel) (qa_cons (qv 1) (qa_cons (qe_bty (T := "str") B.str (by decide +kernel)) qa_nil))))) (qw_or1 (qt_cmp op_gt (so_I0 (so_bl _)) (qe_callB call_len_str sc_lenS (by rfl) B.len (by decide +kernel) (qa_cons (qv 1) qa_nil)) qe_int (nomark _))))) (qss_one (qs_ret qe_str)) qss_nil)
      (qss_cons (qs_for (passes_of rfl) rfl (qi_enum (K' := K) (by rfl) B.enumerate (qa_cons (qv 1) qa_nil)) (qg_tup rfl (qgs_cons (qg_name (i := 2) sc_law_view_due.nd rfl (.inl rfl)) (qgs_cons (qg_name (i := 3) sc_law_view_due.nd rfl (.inl rfl)) qgs_nil)))
        (qss_one (qs_if (qt_cmp op_notin_str so_S (qv 3) (qe_op op_add_str so_catS (qe_ix (r := rIxT K) ix_tup so_ixT (qv 0) qe_int (fun _ _ => rfl)) qe_str) (by rfl)) (qss_one (qs_ret (qe_tup (qa_cons qe_str (qa_cons (qv 2) qa_nil))))) qss_nil)))
      (qss_one (qs_ret qe_non)))), fun ds PP h => ?_⟩)
  · obtain ⟨c, b, n, k, p, rfl, _⟩ := h
    rfl
  · obtain ⟨c, b, n, kk, p, rfl, hc, od, k⟩ := h
    walk_at "ps"
    by_cases hs : ∃ z, p = .str z
    · obtain ⟨z, rfl⟩ := hs
      have oz := od.str z rfl
      have zl := str_len z
      refine w_ork (fun q => by cases q) (fun _ => ?_)
      walk_at "ps"
      refine w_lenS rfl (by have := oz.len; exact Nat.le_trans this (by decide)) ?_
      walk_at "ps"
      refine w_ifk (fun q => ?_) (fun q => ?_)
      · have q : 40 < z.length := by have := of_decide_eq_true q; omega
        rw [show veD c.sg (.str z) = .str "form" from if_pos q] at k
        walk_at "ps"
        exact k
      · have q : ¬ 40 < z.length := by have := of_decide_eq_false q; omega
        rw [show veD c.sg (.str z) = whereD "sign" (fbad (cBad c.sg) z.cps.toList 0) from if_neg q] at k
        walk_at "ps"
        refine for_num z.cps.toList sgD (fun i env => ∃ (y1 y2 : D), env = [.py (chD c), .py (.str z), y1, y2] ∧ fbad (cBad c.sg) z.cps.toList 0 = fbad (cBad c.sg) (z.cps.toList.drop i) i) ⟨_, _, rfl, rfl⟩ (fun i a env hi h Nn hn => ?_) fun env h => ?_
        · obtain ⟨y1, y2, rfl, e⟩ := h
          obtain ⟨s1, s2⟩ := fbad_step hi e
          walk_at "ps"
          refine w_ixT rfl rfl (z := .str c.sg) rfl ?_
          walk_at "ps"
          refine w_catS rfl rfl (by rw [str_len, hc.sg.len]; have := hc.k5; exact Nat.le_trans (show kk + 1 ≤ 6 by omega) (by decide)) ?_
          walk_at "ps"
          rw [occ_one, app_cps]
          have eb : decide (a ∈ c.sg.cps.toList ++ (Str.ofString ".").cps.toList) = !cBad c.sg a := by
            unfold cBad
            by_cases h1 : a = 46
            · rw [decide_eq_true h1, decide_eq_true (List.mem_append_right _ (by rw [h1]; exact (by decide +kernel : (46 : Nat) ∈ (Str.ofString ".").cps.toList)))]
              rfl
            · by_cases h2 : a ∈ c.sg.cps.toList
              · rw [decide_eq_false h1, decide_eq_true h2, decide_eq_true (by simp [h2])]
                rfl
              · rw [decide_eq_false h1, decide_eq_false h2, decide_eq_false]
                · rfl
                · intro h
                  rcases List.mem_append.mp h with h | h
                  · exact h2 h
                  · have : a ∈ [46] := h
                    exact h1 (List.mem_singleton.mp this)
          rw [eb]
          refine w_ifk (fun q2 => ?_) (fun q2 => ?_)
          · have b1 : cBad c.sg a = true := by simpa using q2
            rw [s1 b1] at k
            walk_at "ps"
            exact k
          · have b1 : cBad c.sg a = false := by simpa using q2
            walk_at "ps"
            exact hn _ ⟨_, _, rfl, s2 b1⟩
        · obtain ⟨y1, y2, rfl, e⟩ := h
          rw [fbad_end (Nat.le_refl _) e] at k
          walk_at "ps"
          exact k
    · have e : isStr p = false := by
        cases p with
        | str z => exact absurd ⟨z, rfl⟩ hs
        | _ => rfl
      rw [show veD c.sg p = .str "form" from by
        cases p with
        | str z => exact absurd ⟨z, rfl⟩ hs
        | _ => rfl] at k
      rw [e]
      refine w_ork (fun _ => ?_) (fun q => by cases q)
      walk_at "ps"
      exact k
theorem ok_law_course_due (B : Blt mg) {f : Addr} {fd : FuncData} (F : Fun K "_law_course_due" "_law_course_due" s_law_course_due f fd) (c_law_is_whole : FnAt P w K mg base s_law_is_whole 1 "_law_is_whole" ["value", "low", "high"] (spP K psLWh)) :
    FG P w K mg base 2 f fd ["chain", "view", "value"] (spP K psCE) := by
  refine okP F sc_law_course_due (fun ds PP XX h => ?_) (fun cdv A out s H E BB m0 XX gu hr lk => ⟨_, _, (qss_cons (qs_if (QW.qt (qw_or (qt_not (qt_val (qe_callB (r := rIsi K) call_isi sc_isi (by rfl) B.isinstance (by decide +kernel) (qa_cons (qv 2) (qa_cons (qe_bty (T := "tuple") B.tuple (by decide +kernel)) qa_nil))))) (qw_or1 (qt_cmp op_ne so_ne (qe_callB (r := VB.rLen K) cl_len sc_len (by rfl) B.len (by decide +kernel) (qa_cons (qv 2) qa_nil)) (qe_callB call_len_str sc_lenS (by rfl) B.len (by decide +kernel) (qa_cons (qv 1) qa_nil)) (nomark _))))) (qss_one (qs_ret qe_str)) qss_nil)
      (qss_cons (qs_for (passes_of rfl) rfl (qi_enum (K' := K) (by rfl) B.enumerate (qa_cons (qv 2) qa_nil)) (qg_tup rfl (qgs_cons (qg_name (i := 3) sc_law_course_due.nd rfl (.inl rfl)) (qgs_cons (qg_name (i := 4) sc_law_course_due.nd rfl (.inl rfl)) qgs_nil)))
        (qss_one (qs_if (qt_not (qt_val (qe_c c_law_is_whole gu (hr.mono (by decide)) (fun σ => passN σ) lk0 (qa_cons (qv 4) (qa_cons qe_int (qa_cons (qe_op op_sub (so_I0 (so_int _)) (qe_callB (r := VB.rLen K) cl_len sc_len (by rfl) B.len (by decide +kernel) (qa_cons (qe_ix (r := rIxT K) ix_tup so_ixT (qv 0) qe_int (fun _ _ => rfl)) qa_nil)) qe_int) qa_nil)))))) (qss_one (qs_ret (qe_tup (qa_cons qe_str (qa_cons (qv 3) qa_nil))))) qss_nil)))
      (qss_one (qs_ret qe_non)))), fun ds PP h => ?_⟩)
  · obtain ⟨c, b, n, k, L, z, p, rfl, _⟩ := h
    rfl
  · obtain ⟨c, b, n, kk, L, z, p, rfl, hc, zl, l1, od, k⟩ := h
    have lst : c.st.length = n := hc.st.len
    have n1 := hc.n1
    walk_at "ps"
    by_cases hs : ∃ es, p = .tuple es
    · obtain ⟨es, rfl⟩ := hs
      have ol := od.tup es rfl
      refine w_ork (fun q => by cases q) (fun _ => ?_)
      walk_at "ps"
      refine w_lenS rfl (by rw [zl]; exact Nat.le_trans l1 (by decide)) ?_
      rw [zl]
      walk_at "ps"
      rw [nat_dec]
      refine w_ifk (fun q => ?_) (fun q => ?_)
      · have q : es.length ≠ L := by simpa using q
        rw [show ceD n L (.tuple es) = .str "form" from if_pos q] at k
        walk_at "ps"
        exact k
      · have q : ¬ es.length ≠ L := by simpa using q
        rw [show ceD n L (.tuple es) = whereD "state" (fbad (wBad n) es 0) from if_neg q] at k
        walk_at "ps"
        rw [show numD es = numD (es.map fun d => d) from by rw [List.map_id']]
        refine for_num es (fun d => d) (fun i env => ∃ (y1 y2 : D), env = [.py (chD c), .py (.str z), .py (.tuple es), y1, y2] ∧ fbad (wBad n) es 0 = fbad (wBad n) (es.drop i) i) ⟨_, _, rfl, rfl⟩ (fun i a env hi h Nn hn => ?_) fun env h => ?_
        · obtain ⟨y1, y2, rfl, e⟩ := h
          obtain ⟨s1, s2⟩ := fbad_step hi e
          walk_at "ps"
          refine w_ixT rfl rfl (z := lnD c.st) rfl ?_
          walk_at "ps"
          rw [show (c.st.map PyData.int).length = n from by rw [List.length_map, lst]]
          refine ⟨a, 0, (n : Int) - 1, rfl, ?_⟩
          have eb : lwhB 0 ((n : Int) - 1) a = !wBad n a := by
            cases a with
            | int v =>
              show (decide (0 ≤ v) && decide (v ≤ (n : Int) - 1)) = !(!(decide (0 ≤ v) && decide (v < (n : Int))))
              rw [Bool.not_not]
              congr 1
              by_cases h : v < (n : Int)
              · rw [decide_eq_true h, decide_eq_true (by omega)]
              · rw [decide_eq_false h, decide_eq_false (by omega)]
            | _ => rfl
          rw [eb]
          walk_at "ps"
          refine w_ifk (fun q2 => ?_) (fun q2 => ?_)
          · have b1 : wBad n a = true := by simpa using q2
            rw [s1 b1] at k
            walk_at "ps"
            exact k
          · have b1 : wBad n a = false := by simpa using q2
            walk_at "ps"
            exact hn _ ⟨_, _, rfl, s2 b1⟩
        · obtain ⟨y1, y2, rfl, e⟩ := h
          rw [fbad_end (Nat.le_refl _) e] at k
          walk_at "ps"
          exact k
    · have e : isTup p = false := by
        cases p with
        | tuple z => exact absurd ⟨z, rfl⟩ hs
        | _ => rfl
      rw [show ceD n L p = .str "form" from by
        cases p with
        | tuple z => exact absurd ⟨z, rfl⟩ hs
        | _ => rfl] at k
      rw [e]
      refine w_ork (fun _ => ?_) (fun q => by cases q)
      walk_at "ps"
      exact k
theorem sh_pair (a b : PyData) : (PyData.list [a, b]).shown = Str.ofString "[" ++ a.shown ++ Str.ofString ", " ++ b.shown ++ Str.ofString "]" := by
  simp only [PyData.shown, PyData.shownAll, listText]
  rfl
structure OdL (m : Nat) (z : Str) : Prop where
  len : z.length ≤ m
  ch : ∀ c ∈ z.cps.toList, c < 128
theorem OdL.od {m : Nat} {z : Str} (h : OdL m z) (hm : m ≤ 800) : OdS z := ⟨Nat.le_trans h.len hm, h.ch⟩
theorem OdL.app {a b : Nat} {x y : Str} (h : OdL a x) (k : OdL b y) : OdL (a + b) (x ++ y) := by
  refine ⟨?_, fun c hc => ?_⟩
  · have h1 := h.len
    have h2 := k.len
    rw [str_len] at h1 h2 ⊢
    rw [app_cps, List.length_append]
    omega
  · rw [app_cps] at hc
    rcases List.mem_append.mp hc with q | q
    · exact h.ch c q
    · exact k.ch c q
theorem OdL.sub {a : Nat} {x y : Str} (h : OdL a x) (hs : y.cps.toList.Sublist x.cps.toList) : OdL a y := by
  refine ⟨?_, fun c hc => h.ch c (hs.subset hc)⟩
  have h1 := h.len
  rw [str_len] at h1 ⊢
  exact Nat.le_trans hs.length_le h1
theorem OdL.upto {a : Nat} {x : Str} (h : OdL a x) (n : Nat) : OdL a (cutS x none (some (n : Int))) := h.sub (by rw [cutS_upto]; exact List.take_sublist _ _)
theorem OdL.from {a : Nat} {x : Str} (h : OdL a x) (n : Nat) : OdL a (cutS x (some (n : Int)) none) := h.sub (by rw [cutS_from]; exact List.drop_sublist _ _)
theorem OdL.mul {a : Nat} {x : Str} (h : OdL a x) (n : Nat) : OdL (n * a) (mulS x n) := by
  have e := mulS_cps x n
  refine ⟨?_, fun c hc => ?_⟩
  · rw [str_len, e, List.length_flatten, List.map_replicate, List.sum_replicate_nat]
    have := h.len
    rw [str_len] at this
    exact Nat.mul_le_mul_left _ this
  · rw [e] at hc
    obtain ⟨l, hl, hc⟩ := List.mem_flatten.mp hc
    rw [(List.mem_replicate.mp hl).2] at hc
    exact h.ch c hc
theorem OdL.sg {a : Nat} (h : a < 128) : OdL 1 (sg1 a) := ⟨Nat.le_refl 1, fun c hc => by
  have hc : c ∈ [a] := hc
  rw [List.mem_singleton.mp hc]
  exact h⟩
theorem OdL.vw {sg z : Str} {k L : Nat} (hs : Sgs k sg) (h : VwOk sg z L) : OdL L z := ⟨by rw [str_len, h.len]; exact Nat.le_refl _, fun c hc => by
  rcases h.let_ c hc with rfl | q
  · decide
  · have := (hs.let_ c q).2
    omega⟩
theorem od_str {m : Nat} {z : Str} (h : OdL m z) (hm : m ≤ 800) : Od (.str z) := ⟨(fb_txt (h.od hm)).mono (by decide) (by decide), fun y e => by cases e; exact h.od hm, fun ds e => by cases e⟩
theorem od_of {p : PyData} (h : Fb 1000000 20 p) (h1 : ∀ z, p ≠ .str z) (h2 : ∀ ds, p ≠ .tuple ds) : Od p := ⟨h, fun z e => absurd e (h1 z), fun ds e => absurd e (h2 ds)⟩
theorem fb_emp : Fb 2 1 (.dict []) := ⟨rfl, Nat.le_refl _, by simp [PyData.depth, PyData.depthKv]⟩
theorem od_lst {ds : List PyData} (h : ∀ d ∈ ds, Fb 3000 4 d) (hl : ds.length ≤ 100) : Od (.list ds) := by
  have e : ds.length * (3000 + 2) ≤ 100 * (3000 + 2) := Nat.mul_le_mul_right _ hl
  exact od_of ((fb_lst (fba_all h)).mono (by omega) (by decide)) (fun z e => by cases e) (fun z e => by cases e)
theorem od_tup {ds : List PyData} (h : ∀ d ∈ ds, Fb 3000 4 d) (hl : ds.length ≤ 100) : Od (.tuple ds) := by
  have e : ds.length * (3000 + 2) ≤ 100 * (3000 + 2) := Nat.mul_le_mul_right _ hl
  refine ⟨(fb_tup (fba_all h)).mono (by omega) (by decide), fun z e => (by cases e), fun es e => ?_⟩
  cases e
  omega
theorem w_catO {m n : Nat} {a c : Str} {P : D → Prop} (ha : OdL m a) (hc : OdL n c) (hm : m + n ≤ 2000) (q : P (.py (.str (a ++ c)))) : oCatS (.py (.str a)) (.py (.str c)) P :=
  w_catS rfl rfl (by have := ha.len; have := hc.len; exact Nat.le_trans (show a.length + c.length ≤ 2000 by omega) (by decide)) q
theorem fb_sg {c : Nat} (h : c < 128) : Fb 3000 4 (sgD c) := (fb_str (z := sg1 c) (w := 12) (StrLaws.reprText_len _ fun d hd => Nat.lt_of_lt_of_le ((OdL.sg h).ch d hd) (by decide))).mono (by decide) (by decide)
theorem fb_sgs {z : Str} {m : Nat} (h : OdL m z) : ∀ d ∈ sgsD z, Fb 3000 4 d := fun d hd => by
  obtain ⟨c, hc, rfl⟩ := List.mem_map.mp hd
  exact fb_sg (h.ch c hc)
theorem sgsD_len (z : Str) : (sgsD z).length = z.length := by unfold sgsD; rw [List.length_map, str_len]
def psOddV : VP.PSp := fun ds P _ => ∃ (c : Ch) (b n k L : Nat) (z : Str), ds = [.deck, .py (chD c), .py (.str z)] ∧ ChOk b n k c ∧ VwOk c.sg z L ∧ ∀ p, Od p → P (.py p)
theorem ok_law_odd_view (B : Blt mg) {f : Addr} {fd : FuncData} (F : Fun K "_law_odd_view" "_law_odd_view" s_law_odd_view f fd) (c_law_draw : FnAt P w K mg base s_law_draw 1 "_law_draw" ["deck", "many"] (spP K psDraw)) (c_law_pick : FnAt P w K mg base s_law_pick 2 "_law_pick" ["deck", "items"] (spP K psPick)) :
    FG P w K mg base 3 f fd ["deck", "chain", "view"] (spP K psOddV) := by
  refine okP F sc_law_odd_view (fun ds PP XX h => ?_) (fun cdv A out s H E BB m0 XX gu hr lk => have hu := hu_of hr; ⟨_, _, (qss_cons (qs_set 3 sc_law_odd_view.nd rfl (.inl rfl) (qe_c c_law_draw gu (hr.mono (by decide)) (fun σ => passN σ) lk0 (qa_cons (qv 0) (qa_cons (qe_op op_add (so_I0 (so_int _)) (qe_callB call_len_str sc_lenS (by rfl) B.len (by decide +kernel) (qa_cons (qv 2) qa_nil)) qe_int) qa_nil))))
      (qss_cons (qs_set 4 sc_law_odd_view.nd rfl (.inl rfl) (qe_c c_law_pick gu (hr.mono (by decide)) (fun σ => passN σ) lk0 (qa_cons (qv 0) (qa_cons (qe_F (qf_callTy (T := "list") (call_listS rfl) sc_listS (by rfl) B.list (by decide +kernel) (qa_cons qe_str qa_nil))) qa_nil))))
      (qss_cons (qs_set 5 sc_law_odd_view.nd rfl (.inl rfl) (qe_F (qf_lst (qa_cons (qe_op op_add_str so_catS (qe_op op_add_str so_catS (qe_slice sl_str ss_slS (qv 2) qo_none (qo_some (qv 3))) (qv 4)) (qe_slice sl_str ss_slS (qv 2) (qo_some (qv 3)) qo_none)) (qa_cons (qe_op op_add_str so_catS (qe_op op_add_str so_catS (qe_slice sl_str ss_slS (qv 2) qo_none (qo_some (qv 3))) (qv 4)) (qe_slice sl_str ss_slS (qv 2) (qo_some (qe_op op_add (so_I0 (so_int _)) (qv 3) qe_int)) qo_none)) (qa_cons (qe_op op_add_str so_catS (qv 2) (qv 4)) (qa_cons (qe_op op_add_str so_catS (qv 4) (qv 2)) (qa_cons (qe_op (r := rMulS) op_mulS so_mulS (qv 2) qe_int) qa_nil))))))))
      (qss_cons (qs_set 5 sc_law_odd_view.nd rfl (.inl rfl) (qe_op op_cat so_catL (qv 5) (qe_F (qf_lst (qa_cons (qe_op (r := rMulS) op_mulS so_mulS qe_str qe_int) (qa_cons (qe_op (r := rMulS) op_mulS so_mulS (qe_ix ix_str so_ixS (qe_ix (r := rIxT K) ix_tup so_ixT (qv 1) qe_int (fun _ _ => rfl)) qe_int (fun _ _ => rfl)) qe_int) (qa_cons (qe_op (r := rMulS) op_mulS so_mulS (qe_ix ix_str so_ixS (qe_ix (r := rIxT K) ix_tup so_ixT (qv 1) qe_int (fun _ _ => rfl)) qe_int (fun _ _ => rfl)) qe_int) (qa_cons (qe_op (r := rMulS) op_mulS so_mulS qe_str qe_int) (qa_cons (qe_ix (r := rIxT K) ix_tup so_ixT (qv 1) qe_int (fun _ _ => rfl)) (qa_cons qe_str (qa_cons qe_non (qa_cons qe_int (qa_cons qe_bl (qa_cons (qe_F (qf_callTy (T := "list") (call_listS rfl) sc_listS (by rfl) B.list (by decide +kernel) (qa_cons (qv 2) qa_nil))) qa_nil))))))))))))))
      (qss_cons (qs_set 5 sc_law_odd_view.nd rfl (.inl rfl) (qe_op op_cat so_catL (qv 5) (qe_F (qf_lst (qa_cons (qe_callTy (T := "tuple") (call_tupS rfl) sc_tupS (by rfl) B.tuple (by decide +kernel) (qa_cons (qv 2) qa_nil)) (qa_cons qe_emp (qa_cons qe_int qa_nil)))))))
      (qss_one (qs_ret (qe_c c_law_pick gu (hr.mono (by decide)) (fun σ => passN σ) lk0 (qa_cons (qv 0) (qa_cons (qv 5) qa_nil)))))))))), fun ds PP h => ?_⟩)
  · obtain ⟨c, b, n, kk, L, z, rfl, _⟩ := h
    rfl
  · obtain ⟨c, b, n, kk, L, z, rfl, hc, hv, k⟩ := h
    have l41 := hv.l41
    have oz := OdL.vw hc.sg hv
    have zl : z.length = L := by rw [str_len]; exact hv.len
    have k1 := hc.k1
    have k5 := hc.k5
    have sgl : c.sg.length = kk := by rw [str_len]; exact hc.sg.len
    have osg : OdL 5 c.sg := ⟨by omega, fun x hx => by have := (hc.sg.let_ x hx).2; omega⟩
    have sz : ∀ n : Nat, n ≤ 2000 → n ≤ sizeLine := fun n h => Nat.le_trans h (by decide)
    walk_at "ps"
    refine w_lenS rfl (sz _ (by omega)) ?_
    rw [zl]
    walk_at "ps"
    refine w_draw (by omega) fun r r0 r1 => ?_
    obtain ⟨r, rfl⟩ : ∃ m : Nat, r = (m : Nat) := ⟨r.toNat, by omega⟩
    have rl : r ≤ L := by omega
    walk_at "ps"
    refine ⟨_, rfl, by decide +kernel, ?_⟩
    walk_at "ps"
    refine w_pick (by decide +kernel) (by decide +kernel) fun y hy => ?_
    obtain ⟨a, ha, rfl⟩ := List.mem_map.mp hy
    have a8 : a < 128 := by
      have : ∀ x ∈ (Str.ofString "abzAB1 -,\n:_").cps.toList, x < 128 := by decide +kernel
      exact this a ha
    have oa := OdL.sg a8
    have oM : ∀ (s : Str) (n : Nat), s.length = n → (∀ c ∈ s.cps.toList, c < 128) → OdL n s := fun s n h1 h2 => ⟨by omega, h2⟩
    walk_at "ps"
    refine w_slS rfl (sz _ (by omega)) ?_
    walk_at "ps"
    refine w_catO (oz.upto r) oa (by omega) ?_
    walk_at "ps"
    refine w_slS rfl (sz _ (by omega)) ?_
    walk_at "ps"
    refine w_catO ((oz.upto r).app oa) (oz.from r) (by omega) ?_
    walk_at "ps"
    refine w_slS rfl (sz _ (by omega)) ?_
    walk_at "ps"
    refine w_catO (oz.upto r) oa (by omega) ?_
    walk_at "ps"
    refine w_slS rfl (sz _ (by omega)) ?_
    walk_at "ps"
    rw [show ((r : Nat) : Int) + 1 = ((r + 1 : Nat) : Int) by omega]
    refine w_catO ((oz.upto r).app oa) (oz.from (r + 1)) (by omega) ?_
    walk_at "ps"
    refine w_catO oz oa (by omega) ?_
    walk_at "ps"
    refine w_catO oa oz (by omega) ?_
    walk_at "ps"
    refine w_mulS (n := 9) rfl rfl (by omega) (by decide) ?_
    walk_at "ps"
    refine w_mulS (n := 41) rfl rfl (by decide) (by decide) ?_
    walk_at "ps"
    refine w_ixT rfl rfl (z := .str c.sg) rfl ?_
    walk_at "ps"
    obtain ⟨s0, hs0⟩ : ∃ s0, c.sg.cps.toList[0]? = some s0 := ⟨_, List.getElem?_eq_getElem (by rw [hc.sg.len]; omega)⟩
    have os0 : OdL 1 (sg1 s0) := OdL.sg (by have := (hc.sg.let_ s0 (List.mem_of_getElem? hs0)).2; omega)
    refine w_ixS rfl rfl (sz _ (by omega)) (c := s0) (atI_nat (j := 0) hs0) ?_
    walk_at "ps"
    refine w_mulS (n := 41) rfl rfl (by rw [show (Str.mk #[s0]).length = 1 from rfl]; decide) (by decide) ?_
    walk_at "ps"
    refine w_ixT rfl rfl (z := .str c.sg) rfl ?_
    walk_at "ps"
    refine w_ixS rfl rfl (sz _ (by omega)) (c := s0) (atI_nat (j := 0) hs0) ?_
    walk_at "ps"
    refine w_mulS (n := 40) rfl rfl (by rw [show (Str.mk #[s0]).length = 1 from rfl]; decide) (by decide) ?_
    walk_at "ps"
    refine w_mulS (n := 40) rfl rfl (by decide) (by decide) ?_
    walk_at "ps"
    refine w_ixT rfl rfl (z := .str c.sg) rfl ?_
    walk_at "ps"
    refine ⟨z, rfl, by rw [show z.cps.size = z.length from rfl]; exact sz _ (by omega), ?_⟩
    walk_at "ps"
    refine w_catL rfl rfl (by simp) ?_
    walk_at "ps"
    refine w_tupS (by rw [show z.cps.size = z.length from rfl]; exact sz _ (by omega)) ?_
    walk_at "ps"
    refine w_catL rfl rfl (by simp) ?_
    walk_at "ps"
    refine w_pick (by simp) (by simp) fun p hp => k p ?_
    have odot : OdL 1 (Str.ofString ".") := ⟨by decide, by decide +kernel⟩
    simp only [List.mem_append, List.mem_cons, List.mem_nil_iff, or_false, List.not_mem_nil] at hp
    rcases hp with (((rfl | rfl | rfl | rfl | rfl) | (rfl | rfl | rfl | rfl | rfl | rfl | rfl | rfl | rfl | rfl)) | (rfl | rfl | rfl))
    · exact od_str (((oz.upto r).app oa).app (oz.from r)) (by omega)
    · exact od_str (((oz.upto r).app oa).app (oz.from (r + 1))) (by omega)
    · exact od_str (oz.app oa) (by omega)
    · exact od_str (oa.app oz) (by omega)
    · exact od_str (oz.mul 9) (by omega)
    · exact od_str (odot.mul 41) (by decide)
    · exact od_str (os0.mul 41) (by decide)
    · exact od_str (os0.mul 40) (by decide)
    · exact od_str (odot.mul 40) (by decide)
    · exact od_str osg (by decide)
    · exact od_str (m := 0) ⟨by decide, by decide +kernel⟩ (by decide)
    · exact od_of (fb_none.mono (by decide) (by decide)) (fun z e => by cases e) (fun z e => by cases e)
    · exact od_of ((fb_int (k := 10) (show Int.natAbs _ < 2 ^ 10 by decide) (by decide) (by decide)).mono (by decide) (by decide)) (fun z e => by cases e) (fun z e => by cases e)
    · exact od_of ((fb_bool true).mono (by decide) (by decide)) (fun z e => by cases e) (fun z e => by cases e)
    · exact od_lst (fb_sgs oz) (by have := sgsD_len z; show (sgsD z).length ≤ 100; omega)
    · exact od_tup (fb_sgs oz) (by rw [sgsD_len]; omega)
    · exact od_of (fb_emp.mono (by decide) (by decide)) (fun z e => by cases e) (fun z e => by cases e)
    · exact od_of ((fb_int (k := 10) (show Int.natAbs _ < 2 ^ 10 by decide) (by decide) (by decide)).mono (by decide) (by decide)) (fun z e => by cases e) (fun z e => by cases e)
theorem cutD_from (xs : List PyData) (n : Nat) : VP.cutD xs (some (n : Int)) none = xs.drop n := by
  unfold VP.cutD
  rw [show HT.sIx xs.length 0 (some (n : Int)) = min n xs.length from HT.sIx_nat _ _ n, HT.sIx_none]
  by_cases h : n ≤ xs.length
  · rw [Nat.min_eq_left h, List.take_of_length_le (by rw [List.length_drop]; exact Nat.le_refl _)]
  · rw [Nat.min_eq_right (by omega), List.drop_of_length_le (Nat.le_refl _), List.drop_of_length_le (by omega), List.take_nil]
theorem eqv_nilT : ∀ ds : List PyData, PyData.eqv (.tuple ds) (.tuple []) = ds.isEmpty
  | [] => rfl
  | _ :: _ => rfl
theorem fb3 {p : PyData} (h : Fb 300 1 p) : Fb 3000 4 p := h.mono (by decide) (by decide)
def psOddC : VP.PSp := fun ds P _ => ∃ (c : Ch) (b n k L : Nat) (z : Str), ds = [.deck, .py (chD c), .py (.str z)] ∧ ChOk b n k c ∧ VwOk c.sg z L ∧ ∀ p, Od p → P (.py p)
theorem ok_law_odd_course (B : Blt mg) {f : Addr} {fd : FuncData} (F : Fun K "_law_odd_course" "_law_odd_course" s_law_odd_course f fd) (c_law_draw : FnAt P w K mg base s_law_draw 1 "_law_draw" ["deck", "many"] (spP K psDraw)) (c_law_pick : FnAt P w K mg base s_law_pick 2 "_law_pick" ["deck", "items"] (spP K psPick)) :
    FG P w K mg base 3 f fd ["deck", "chain", "view"] (spP K psOddC) := by
  refine okP F sc_law_odd_course (fun ds PP XX h => ?_) (fun cdv A out s H E BB m0 XX gu hr lk => have hu := hu_of hr; ⟨_, _, (qss_cons (qs_set 3 sc_law_odd_course.nd rfl (.inr rfl) (qe_callB (r := VB.rLen K) cl_len sc_len (by rfl) B.len (by decide +kernel) (qa_cons (qe_ix (r := rIxT K) ix_tup so_ixT (qv 1) qe_int (fun _ _ => rfl)) qa_nil)))
      (qss_cons (qs_set 4 sc_law_odd_course.nd rfl (.inl rfl) (qe_callTy (T := "tuple") (r := rTupOf K) cl_tupOf sc_tupOf (by rfl) B.tuple (by decide +kernel) (qa_cons (qe_F (qf_lc (own := [("sign", 8)]) (g := (gName 8)) (js := [8]) (tt := tYes) (pt := pYes)  rfl sc_law_odd_course.nd (qi_str (qv 2)) (blkOk_by (own := [("sign", 8)]) (N := ["deck", "chain", "view", "many", "course", "turn", "spot", "item", "sign"]) (sc := defScope s_law_odd_course) (by decide +kernel)) (fun _ _ _ _ _ => (qg_name (i := 8) sc_law_odd_course.nd rfl (by first | exact .inl rfl | exact .inr rfl))) (fun _ _ _ _ _ => qts_nil) (fun _ _ _ _ _ => (qe_c c_law_draw gu (hr.mono (by decide)) (fun σ => passN σ) lk0 (qa_cons (qv 0) (qa_cons (qv 3) qa_nil)))))) qa_nil)))
      (qss_cons (qs_if (qt_cmp op_eq so_eq (qe_c c_law_draw gu (hr.mono (by decide)) (fun σ => passN σ) lk0 (qa_cons (qv 0) (qa_cons qe_int qa_nil))) qe_int (nomark _)) (qss_one (qs_ret (qe_c c_law_pick gu (hr.mono (by decide)) (fun σ => passN σ) lk0 (qa_cons (qv 0) (qa_cons (qe_F (qf_lst (qa_cons (qe_op (r := rCatA K) op_catA so_catT (qv 4) (qe_tup (qa_cons qe_int qa_nil))) (qa_cons (qe_slice (r := rSlA K) sl_tupA ss_slT (qv 4) (qo_some qe_int) qo_none) (qa_cons (qe_F (qf_callTy (T := "list") (r := rListOf K) cl_listOf sc_listOf (by rfl) B.list (by decide +kernel) (qa_cons (qv 4) qa_nil))) (qa_cons (qv 2) (qa_cons qe_non (qa_cons qe_int (qa_cons qe_bl (qa_cons qe_emp (qa_cons (qe_tup qa_nil) (qa_cons (qe_tup (qa_cons (qe_tup qa_nil) qa_nil)) (qa_cons (qe_tup (qa_cons (qv 4) qa_nil)) qa_nil))))))))))))) qa_nil))))) qss_nil)
      (qss_cons (qs_for (passes_of rfl) rfl (qi_range1 rfl B.range (qa_cons (qe_ifE (qt_cmp (r := rNeD K) (op_neD hr.units) so_neD (qv 4) (qe_tup qa_nil) (nomark _)) (qe_op op_add (so_I0 (so_int _)) qe_int (qe_c c_law_draw gu (hr.mono (by decide)) (fun σ => passN σ) lk0 (qa_cons (qv 0) (qa_cons qe_int qa_nil)))) qe_int) qa_nil)) (qg_name (i := 5) sc_law_odd_course.nd rfl (.inl rfl))
        (qss_cons (qs_set 6 sc_law_odd_course.nd rfl (.inl rfl) (qe_c c_law_draw gu (hr.mono (by decide)) (fun σ => passN σ) lk0 (qa_cons (qv 0) (qa_cons (qe_callB (r := VB.rLen K) cl_len sc_len (by rfl) B.len (by decide +kernel) (qa_cons (qv 4) qa_nil)) qa_nil))))
      (qss_cons (qs_set 7 sc_law_odd_course.nd rfl (.inl rfl) (qe_c c_law_pick gu (hr.mono (by decide)) (fun σ => passN σ) lk0 (qa_cons (qv 0) (qa_cons (qe_F (qf_lst (qa_cons (qv 3) (qa_cons (qe_un un_neg su_neg qe_int) (qa_cons qe_bl (qa_cons qe_bl (qa_cons qe_non (qa_cons qe_str (qa_cons (qe_tup (qa_cons qe_int qa_nil)) (qa_cons (qe_op op_pow (so_I (so_int _)) qe_int qe_int) (qa_cons (qe_op op_sub (so_I0 (so_int _)) (qv 3) qe_int) (qa_cons (qe_F (qf_lst (qa_cons qe_int qa_nil))) (qa_cons qe_emp qa_nil))))))))))))) qa_nil))))
      (qss_one (qs_set 4 sc_law_odd_course.nd rfl (.inl rfl) (qe_op (r := rCatA K) op_catA so_catT (qe_op (r := rCatA K) op_catA so_catT (qe_slice (r := rSlA K) sl_tupA ss_slT (qv 4) qo_none (qo_some (qv 6))) (qe_tup (qa_cons (qv 7) qa_nil))) (qe_slice (r := rSlA K) sl_tupA ss_slT (qv 4) (qo_some (qe_op op_add (so_I0 (so_int _)) (qv 6) qe_int)) qo_none)))))))
      (qss_one (qs_ret (qv 4))))))), fun ds PP h => ?_⟩)
  · obtain ⟨c, b, n, kk, L, z, rfl, _⟩ := h
    rfl
  · obtain ⟨c, b, n, kk, L, z, rfl, hc, hv, k⟩ := h
    have l41 := hv.l41
    have oz := OdL.vw hc.sg hv
    have zl : z.length = L := by rw [str_len]; exact hv.len
    have lst : c.st.length = n := hc.st.len
    have n1 := hc.n1
    have n6 := hc.n6
    have fint : ∀ i : Int, Bd 200 i → Fb 300 1 (.int i) := fun i h => (fb_int h (by decide) (by decide)).mono (by decide) (by decide)
    have sz : ∀ n : Nat, n ≤ 2000 → n ≤ sizeLine := fun n h => Nat.le_trans h (by decide)
    walk_at "ps"
    refine w_ixT rfl rfl (z := lnD c.st) rfl ?_
    walk_at "ps"
    rw [show (c.st.map PyData.int).length = n from by rw [List.length_map, lst]]
    walk_at "ps"
    refine lc_rel z.cps.toList sgD (fun _ p => ∃ r : Nat, p = .int (r : Nat) ∧ r < n) (by have := hv.len; omega) (fun a ha Q T hq => ?_) fun ds hd => ?_
    · walk_at "ps"
      refine w_draw (by omega) fun r r0 r1 => ?_
      obtain ⟨r, rfl⟩ : ∃ m : Nat, r = (m : Nat) := ⟨r.toNat, by omega⟩
      exact hq _ ⟨r, rfl, by omega⟩
    obtain ⟨us, rfl, lu, hu2⟩ := all2_pick hd
    have lu : us.length = L := by rw [lu, hv.len]
    walk_at "ps"
    refine w_draw (by decide) fun r r0 r1 => ?_
    walk_at "ps"
    have fus : ∀ d ∈ us.map (fun u : Nat => PyData.int (u : Nat)), Fb 300 1 d := fun d hd => by
      obtain ⟨u, hu3, rfl⟩ := List.mem_map.mp hd
      have := hu2 u hu3
      exact fint _ (Nat.lt_of_lt_of_le (show ((u : Nat) : Int).natAbs < 2 ^ 10 by omega) (Nat.pow_le_pow_right (by decide) (by decide)))
    have lus : (us.map (fun u : Nat => PyData.int (u : Nat))).length = L := by rw [List.length_map, lu]
    have dus : ∀ d ∈ us.map (fun u : Nat => PyData.int (u : Nat)), VP.Sm 0 d := fun d hd => by
      obtain ⟨u, _, rfl⟩ := List.mem_map.mp hd
      exact sm_int _
    generalize us.map (fun u : Nat => PyData.int (u : Nat)) = es at *
    refine w_ifk (fun q => ?_) (fun q => ?_)
    · walk_at "ps"
      refine w_catT rfl rfl (by rw [lus]; show L + 1 ≤ 1000; omega) ?_
      walk_at "ps"
      refine w_pick (by simp) (by simp) fun p hp => k p ?_
      rw [show cutD es (some 1) none = es.drop 1 from cutD_from es 1] at hp
      have f0 : Fb 300 1 (.int 0) := fint 0 (by show (0 : Int).natAbs < 2 ^ 200; exact Nat.two_pow_pos 200)
      simp only [List.mem_cons, List.mem_nil_iff, or_false, List.not_mem_nil] at hp
      rcases hp with rfl | rfl | rfl | rfl | rfl | rfl | rfl | rfl | rfl | rfl | rfl
      · refine od_tup (fun d hd => fb3 ?_) (by rw [List.length_append, lus]; show L + 1 ≤ 100; omega)
        rcases List.mem_append.mp hd with q | q
        · exact fus d q
        · rw [List.mem_singleton.mp q]; exact f0
      · exact od_tup (fun d hd => fb3 (fus d (List.mem_of_mem_drop hd))) (by rw [List.length_drop]; omega)
      · exact od_lst (fun d hd => fb3 (fus d hd)) (by omega)
      · exact od_str oz (by omega)
      · exact od_of (fb_none.mono (by decide) (by decide)) (fun z e => by cases e) (fun z e => by cases e)
      · exact od_of ((fb_int (k := 10) (show Int.natAbs _ < 2 ^ 10 by decide) (by decide) (by decide)).mono (by decide) (by decide)) (fun z e => by cases e) (fun z e => by cases e)
      · exact od_of ((fb_bool true).mono (by decide) (by decide)) (fun z e => by cases e) (fun z e => by cases e)
      · exact od_of (fb_emp.mono (by decide) (by decide)) (fun z e => by cases e) (fun z e => by cases e)
      · exact od_tup (fun d hd => by cases hd) (by decide)
      · refine od_tup (fun d hd => ?_) (by decide)
        rw [List.mem_singleton.mp hd]
        exact (fb_tup fba_nil).mono (by decide) (by decide)
      · refine ⟨(fb_tup (fba_cons (fb_tup (fba_all fus)) fba_nil)).mono (by have : es.length * (300 + 2) ≤ 50 * (300 + 2) := Nat.mul_le_mul_right _ (by omega); omega) (by decide), fun z e => (by cases e), fun es e => by cases e; simp⟩
    · walk_at "e"
      walk_at "p"
      walk_at "e"
      walk_at "e"
      walk_at "e"
      refine w_cutE (fun d => ∃ m : Nat, d = .py (.int (m : Nat)) ∧ m ≤ 2 ∧ (m = 0 ∨ L ≠ 0)) (fun d hd => ?_) fun N hN => ?_
      · obtain ⟨m, rfl, m2, hm⟩ := hd
        walk_at "ps"
        refine w_iRn (n := m) (by omega) ?_
        walk_at "ps"
        refine for_inv (List.range m) _ (fun i env => ∃ (fs : List PyData) (y5 y6 y7 y8 : D), env = [.deck, .py (chD c), .py (.str z), .py (.int (n : Nat)), .py (.tuple fs), y5, y6, y7, y8] ∧ fs.length = L ∧ ∀ d ∈ fs, Fb 300 1 d) ⟨es, _, _, _, _, rfl, lus, fus⟩ (fun i p env hi h Nn hn => ?_) fun env h => ?_
        · obtain ⟨fs, y5, y6, y7, y8, rfl, lf, hf⟩ := h
          have im : i < m := by have := (List.getElem?_eq_some_iff.mp hi).1; simpa using this
          have L0 : L ≠ 0 := by rcases hm with h | h; · omega
                                · exact h
          walk_at "ps"
          rw [lf]
          refine w_draw (by omega) fun r r0 r1 => ?_
          obtain ⟨r, rfl⟩ : ∃ m : Nat, r = (m : Nat) := ⟨r.toNat, by omega⟩
          have rl : r < L := by omega
          walk_at "ps"
          refine w_pick (by simp) (by simp) fun p hp => ?_
          have fp : Fb 300 1 p := by
            have b200 : ∀ i : Int, i.natAbs < 2 ^ 110 → Fb 300 1 (.int i) := fun i h => fint i (Nat.lt_of_lt_of_le h (Nat.pow_le_pow_right (by decide) (by decide)))
            have c0 : Fb 20 0 (.str "0") := fb_str (by decide +kernel)
            have z0 : Fb 20 0 (.int 0) := (fb_int (k := 10) (show Int.natAbs _ < 2 ^ 10 by decide) (by decide) (by decide)).mono (by decide) (by decide)
            simp only [List.mem_cons, List.mem_nil_iff, or_false, List.not_mem_nil] at hp
            rcases hp with rfl | rfl | rfl | rfl | rfl | rfl | rfl | rfl | rfl | rfl | rfl
            · exact b200 _ (by omega)
            · exact b200 _ (by decide)
            · exact (fb_bool true).mono (by decide) (by decide)
            · exact (fb_bool false).mono (by decide) (by decide)
            · exact fb_none.mono (by decide) (by decide)
            · exact c0.mono (by decide) (by decide)
            · exact (fb_tup (fba_cons z0 fba_nil)).mono (by decide) (by decide)
            · exact b200 _ (by decide)
            · exact b200 _ (by omega)
            · exact (fb_lst (fba_cons z0 fba_nil)).mono (by decide) (by decide)
            · exact fb_emp.mono (by decide) (by decide)
          walk_at "ps"
          rw [show cutD fs none (some (r : Int)) = fs.take r from cutD_take fs r]
          refine w_catT rfl rfl (by rw [List.length_take]; show _ + 1 ≤ 1000; omega) ?_
          walk_at "ps"
          rw [show ((r : Nat) : Int) + 1 = ((r + 1 : Nat) : Int) by omega, cutD_from]
          refine w_catT rfl rfl (by rw [List.length_append, List.length_take, List.length_drop]; show _ + 1 + _ ≤ 1000; omega) ?_
          walk_at "ps"
          refine hn _ ⟨_, _, _, _, _, rfl, by rw [List.length_append, List.length_append, List.length_take, List.length_drop, lf]; show _ + 1 + _ = _; omega, fun d hd => ?_⟩
          rcases List.mem_append.mp hd with q | q
          · rcases List.mem_append.mp q with q | q
            · exact hf d (List.mem_of_mem_take q)
            · rw [List.mem_singleton.mp q]; exact fp
          · exact hf d (List.mem_of_mem_drop q)
        · obtain ⟨fs, y5, y6, y7, y8, rfl, lf, hf⟩ := h
          walk_at "ps"
          exact k _ (od_tup (fun d hd => fb3 (hf d hd)) (by omega))
      · walk_at "ps"
        refine ⟨_, _, rfl, rfl, (VP.sm_tup dus).sh (by decide), (VP.sm_tup (k := 0) (ds := []) (fun d hd => nomatch hd)).sh (by decide), ?_⟩
        rw [eqv_nilT]
        walk_at "ps"
        refine w_ifEk (fun q => ?_) (fun q => ?_)
        · walk_at "ps"
          refine w_draw (by decide) fun r r0 r1 => ?_
          obtain ⟨r, rfl⟩ : ∃ m : Nat, r = (m : Nat) := ⟨r.toNat, by omega⟩
          walk_at "ps"
          refine hN _ ⟨1 + r, by rw [show (1 : Int) + (r : Nat) = ((1 + r : Nat) : Int) by omega], by omega, .inr fun h => ?_⟩
          rw [List.eq_nil_of_length_eq_zero (lus.trans h)] at q
          cases q
        · walk_at "ps"
          exact hN _ ⟨0, rfl, by decide, .inl rfl⟩
theorem fb_len {p : PyData} {w dd : Nat} (h : Fb w dd p) (s : smD p = true) : p.shown.length ≤ w := Nat.le_trans (shown_wtB _ h.sh s) h.wt
theorem sm_where (w : Str) (o : Option Nat) : smD (whereD w o) = true := by cases o <;> rfl
theorem sm_ve (sg : Str) (p : PyData) : smD (veD sg p) = true := by
  cases p with
  | str z =>
    show smD (if 40 < z.length then PyData.str "form" else whereD "sign" (fbad (cBad sg) z.cps.toList 0)) = true
    split
    · rfl
    · exact sm_where _ _
  | _ => rfl
theorem sm_ce (n L : Nat) (p : PyData) : smD (ceD n L p) = true := by
  cases p with
  | tuple ds =>
    show smD (if ds.length ≠ L then PyData.str "form" else whereD "state" (fbad (wBad n) ds 0)) = true
    split
    · rfl
    · exact sm_where _ _
  | _ => rfl
theorem ok_law (B : Blt mg) {f : Addr} {fd : FuncData} (F : Fun K "law" "law" s_law f fd) (c_law_deck : FnAt P w K mg base s_law_deck 1 "_law_deck" ["script"] (spDeck K))
    (c_law_draw : FnAt P w K mg base s_law_draw 1 "_law_draw" ["deck", "many"] (spP K psDraw)) (c_law_pick : FnAt P w K mg base s_law_pick 2 "_law_pick" ["deck", "items"] (spP K psPick)) (c_law_chain : FnAt P w K mg base s_law_chain 4 "_law_chain" ["deck", "states", "signs"] (spP K psChain))
    (c_law_view : FnAt P w K mg base s_law_view 3 "_law_view" ["deck", "signs", "length", "is_gapped"] (spP K psView)) (c_law_odd_view : FnAt P w K mg base s_law_odd_view 3 "_law_odd_view" ["deck", "chain", "view"] (spP K psOddV)) (c_law_odd_course : FnAt P w K mg base s_law_odd_course 3 "_law_odd_course" ["deck", "chain", "view"] (spP K psOddC))
    (c_law_view_due : FnAt P w K mg base s_law_view_due 1 "_law_view_due" ["chain", "value"] (spP K psVE)) (c_law_course_due : FnAt P w K mg base s_law_course_due 2 "_law_course_due" ["chain", "view", "value"] (spP K psCE))
    (c_view_error : FnAt P w K mg base s_view_error 1 "view_error" ["chain", "value"] (spP K psVE)) (c_course_error : FnAt P w K mg base s_course_error 2 "course_error" ["chain", "view", "value"] (spP K psCE)) :
    FG P w K mg base 5 f fd ["script"] (spLaw K) := by
  refine okLaw F sc_law (by decide) rfl (fun cdv A out s H E gu hr => ⟨_, _, _, ps_set (i := 1) sc_law.nd rfl (by first | exact .inl rfl | exact .inr rfl) (pe_c c_law_deck gu (hr.mono (by decide)) (fun σ => passN σ) (pa_cons (pv 0) pa_nil)), fun BB m0 => (qss_cons (qs_for (passes_of rfl) rfl (qi_range1 rfl B.range (qa_cons qe_int qa_nil)) (qg_name (i := 2) sc_law.nd rfl (.inl rfl))
        (qss_cons (qs_set 3 sc_law.nd rfl (.inr rfl) (qe_c c_law_chain gu (hr.mono (by decide)) (fun σ => passN σ) lk0 (qa_cons (qv 1) (qa_cons (qe_op op_add (so_I0 (so_int _)) qe_int (qe_c c_law_draw gu (hr.mono (by decide)) (fun σ => passN σ) lk0 (qa_cons (qv 1) (qa_cons qe_int qa_nil)))) (qa_cons (qe_op op_add (so_I0 (so_int _)) qe_int (qe_c c_law_draw gu (hr.mono (by decide)) (fun σ => passN σ) lk0 (qa_cons (qv 1) (qa_cons qe_int qa_nil)))) qa_nil)))))
      (qss_cons (qs_set 4 sc_law.nd rfl (.inl rfl) (qe_c c_law_view gu (hr.mono (by decide)) (fun σ => passN σ) lk0 (qa_cons (qv 1) (qa_cons (qe_ix (r := rIxT K) ix_tup so_ixT (qv 3) qe_int (fun _ _ => rfl)) (qa_cons (qe_c c_law_pick gu (hr.mono (by decide)) (fun σ => passN σ) lk0 (qa_cons (qv 1) (qa_cons (qe_F (qf_lst (qa_cons qe_int (qa_cons qe_int (qa_cons qe_int (qa_cons qe_int (qa_cons qe_int (qa_cons qe_int qa_nil)))))))) qa_nil))) (qa_cons qe_bl qa_nil))))))
      (qss_cons (qs_set 5 sc_law.nd rfl (.inl rfl) (qe_callB (r := rRepr K) (call_repr gu hr.units) sc_reprF (by rfl) B.repr (by decide +kernel) (qa_cons (qe_F (qf_lst (qa_cons (qv 3) (qa_cons (qv 4) qa_nil)))) qa_nil)))
      (qss_cons (qs_for (passes_of rfl) rfl (qi_range1 rfl B.range (qa_cons qe_int qa_nil)) (qg_name (i := 6) sc_law.nd rfl (.inl rfl))
        (qss_cons (qs_set 7 sc_law.nd rfl (.inl rfl) (qe_ifE (qt_cmp op_eq so_eq (qv 6) qe_int (nomark _)) (qv 4) (qe_c c_law_odd_view gu (hr.mono (by decide)) (fun σ => passN σ) lk0 (qa_cons (qv 1) (qa_cons (qv 3) (qa_cons (qv 4) qa_nil))))))
      (qss_cons (qs_par (i := 8) (j := 9) (by rfl) sc_law.nd rfl rfl (by decide) rfl rfl (qa_cons (qe_callB (r := rRepr K) (call_repr gu hr.units) sc_reprF (by rfl) B.repr (by decide +kernel) (qa_cons (qe_c c_law_view_due gu (hr.mono (by decide)) (fun σ => passN σ) lk0 (qa_cons (qv 3) (qa_cons (qv 7) qa_nil))) qa_nil)) (qa_cons (qe_callB (r := rRepr K) (call_repr gu hr.units) sc_reprF (by rfl) B.repr (by decide +kernel) (qa_cons (qv 7) qa_nil)) qa_nil)) (by rfl))
      (qss_cons (qs_set 10 sc_law.nd rfl (.inl rfl) (qe_ifE (qt_cmp op_eq so_eq (qv 6) qe_int (nomark _)) (qe_ck0 c_view_error kw_view_error_value_chain go_view_error_value_chain gu (hr.mono (by decide)) (fun σ => passN σ) lk0 (qk_cons (qv 7) (qk_cons (qv 3) qk_nil))) (qe_c c_view_error gu (hr.mono (by decide)) (fun σ => passN σ) lk0 (qa_cons (qv 3) (qa_cons (qv 7) qa_nil)))))
      (qss_one (qs_if (QW.qt (qw_or (qt_cmp op_ne so_ne (qe_callB (r := rRepr K) (call_repr gu hr.units) sc_reprF (by rfl) B.repr (by decide +kernel) (qa_cons (qe_F (qf_lst (qa_cons (qv 10) (qa_cons (qe_c c_view_error gu (hr.mono (by decide)) (fun σ => passN σ) lk0 (qa_cons (qv 3) (qa_cons (qv 7) qa_nil))) qa_nil)))) qa_nil)) (qe_op op_add_str so_catS (qe_op op_add_str so_catS (qe_op op_add_str so_catS (qe_op op_add_str so_catS qe_str (qv 8)) qe_str) (qv 8)) qe_str) (nomark _)) (qw_or1 (qt_cmp op_ne so_ne (qe_callB (r := rRepr K) (call_repr gu hr.units) sc_reprF (by rfl) B.repr (by decide +kernel) (qa_cons (qv 7) qa_nil)) (qv 9) (nomark _))))) (qss_one (qs_ret qe_bl)) qss_nil))))))
      (qss_cons (qs_for (passes_of rfl) rfl (qi_range1 rfl B.range (qa_cons qe_int qa_nil)) (qg_name (i := 6) sc_law.nd rfl (.inl rfl))
        (qss_cons (qs_set 7 sc_law.nd rfl (.inl rfl) (qe_callTy (T := "tuple") (r := rTupOf K) cl_tupOf sc_tupOf (by rfl) B.tuple (by decide +kernel) (qa_cons (qe_F (qf_lc (own := [("sign", 11)]) (g := (gName 11)) (js := [11]) (tt := tYes) (pt := pYes)  rfl sc_law.nd (qi_str (qv 4)) (blkOk_by (own := [("sign", 11)]) (N := ["script", "deck", "turn", "chain", "view", "known", "nth", "value", "due", "kept", "found", "sign"]) (sc := defScope s_law) (by decide +kernel)) (fun _ _ _ _ _ => (qg_name (i := 11) sc_law.nd rfl (by first | exact .inl rfl | exact .inr rfl))) (fun _ _ _ _ _ => qts_nil) (fun _ _ _ _ _ => (qe_c c_law_draw gu (hr.mono (by decide)) (fun σ => passN σ) lk0 (qa_cons (qv 1) (qa_cons (qe_callB (r := VB.rLen K) cl_len sc_len (by rfl) B.len (by decide +kernel) (qa_cons (qe_ix (r := rIxT K) ix_tup so_ixT (qv 3) qe_int (fun _ _ => rfl)) qa_nil)) qa_nil)))))) qa_nil)))
      (qss_cons (qs_set 7 sc_law.nd rfl (.inl rfl) (qe_ifE (qt_cmp op_eq so_eq (qv 6) qe_int (nomark _)) (qv 7) (qe_c c_law_odd_course gu (hr.mono (by decide)) (fun σ => passN σ) lk0 (qa_cons (qv 1) (qa_cons (qv 3) (qa_cons (qv 4) qa_nil))))))
      (qss_cons (qs_par (i := 8) (j := 9) (by rfl) sc_law.nd rfl rfl (by decide) rfl rfl (qa_cons (qe_callB (r := rRepr K) (call_repr gu hr.units) sc_reprF (by rfl) B.repr (by decide +kernel) (qa_cons (qe_c c_law_course_due gu (hr.mono (by decide)) (fun σ => passN σ) lk0 (qa_cons (qv 3) (qa_cons (qv 4) (qa_cons (qv 7) qa_nil)))) qa_nil)) (qa_cons (qe_callB (r := rRepr K) (call_repr gu hr.units) sc_reprF (by rfl) B.repr (by decide +kernel) (qa_cons (qv 7) qa_nil)) qa_nil)) (by rfl))
      (qss_cons (qs_set 10 sc_law.nd rfl (.inl rfl) (qe_c c_course_error gu (hr.mono (by decide)) (fun σ => passN σ) lk0 (qa_cons (qv 3) (qa_cons (qv 4) (qa_cons (qv 7) qa_nil)))))
      (qss_cons (qs_if (qt_cmp op_eq so_eq (qv 6) qe_int (nomark _)) (qss_one (qs_set 10 sc_law.nd rfl (.inl rfl) (qe_ck0 c_course_error kw_course_error_value_view_chain go_course_error_value_view_chain gu (hr.mono (by decide)) (fun σ => passN σ) lk0 (qk_cons (qv 7) (qk_cons (qv 4) (qk_cons (qv 3) qk_nil)))))) qss_nil)
      (qss_cons (qs_if (qt_cmp op_ne so_ne (qe_callB (r := rRepr K) (call_repr gu hr.units) sc_reprF (by rfl) B.repr (by decide +kernel) (qa_cons (qe_F (qf_lst (qa_cons (qv 10) (qa_cons (qe_c c_course_error gu (hr.mono (by decide)) (fun σ => passN σ) lk0 (qa_cons (qv 3) (qa_cons (qv 4) (qa_cons (qv 7) qa_nil)))) qa_nil)))) qa_nil)) (qe_op op_add_str so_catS (qe_op op_add_str so_catS (qe_op op_add_str so_catS (qe_op op_add_str so_catS qe_str (qv 8)) qe_str) (qv 8)) qe_str) (nomark _)) (qss_one (qs_ret qe_bl)) qss_nil)
      (qss_one (qs_if (qt_cmp op_ne so_ne (qe_callB (r := rRepr K) (call_repr gu hr.units) sc_reprF (by rfl) B.repr (by decide +kernel) (qa_cons (qv 7) qa_nil)) (qv 9) (nomark _)) (qss_one (qs_ret qe_bl)) qss_nil)))))))))
      (qss_one (qs_if (qt_cmp op_ne so_ne (qe_callB (r := rRepr K) (call_repr gu hr.units) sc_reprF (by rfl) B.repr (by decide +kernel) (qa_cons (qe_F (qf_lst (qa_cons (qv 3) (qa_cons (qv 4) qa_nil)))) qa_nil)) (qv 5) (nomark _)) (qss_one (qs_ret qe_bl)) qss_nil))))))))
      (qss_one (qs_ret qe_bl))), ?_⟩)
  walk_at "ps"
  refine w_iRn (n := 7) (by decide) ?_
  walk_at "ps"
  refine for_inv (List.range 7) _ (fun i env => ∃ (y2 y3 y4 y5 y6 y7 y8 y9 y10 y11 : D), env = [.no, .deck, y2, y3, y4, y5, y6, y7, y8, y9, y10, y11]) ⟨_, _, _, _, _, _, _, _, _, _, rfl⟩ (fun i t env hi h Nn hn => ?_) fun env h => ?_
  · obtain ⟨y2, y3, y4, y5, y6, y7, y8, y9, y10, y11, rfl⟩ := h
    walk_at "ps"
    refine w_draw (by decide) fun r r0 r1 => ?_
    obtain ⟨r, rfl⟩ : ∃ m : Nat, r = (m : Nat) := ⟨r.toNat, by omega⟩
    walk_at "ps"
    refine w_draw (by decide) fun r2 r20 r21 => ?_
    obtain ⟨r2, rfl⟩ : ∃ m : Nat, r2 = (m : Nat) := ⟨r2.toNat, by omega⟩
    walk_at "ps"
    refine ⟨1 + r, 1 + r2, by rw [show (1 : Int) + (r : Nat) = ((1 + r : Nat) : Int) by omega, show (1 : Int) + (r2 : Nat) = ((1 + r2 : Nat) : Int) by omega], by omega, by omega, by omega, by omega, fun c hc => ?_⟩
    generalize 1 + r = n at hc
    generalize 1 + r2 = kk at hc
    have k1 := hc.k1
    have k5 := hc.k5
    have n1 := hc.n1
    have n6 := hc.n6
    have lst : c.st.length = n := hc.st.len
    walk_at "ps"
    refine w_ixT rfl rfl (z := .str c.sg) rfl ?_
    walk_at "ps"
    refine w_pick (by decide) (by decide) fun y hy => ?_
    obtain ⟨L, rfl, l41⟩ : ∃ L : Nat, y = .int (L : Nat) ∧ L ≤ 41 := by
      simp only [List.mem_cons, List.mem_nil_iff, or_false] at hy
      rcases hy with rfl | rfl | rfl | rfl | rfl | rfl
      · exact ⟨0, rfl, by decide⟩
      · exact ⟨1, rfl, by decide⟩
      · exact ⟨3, rfl, by decide⟩
      · exact ⟨5, rfl, by decide⟩
      · exact ⟨12, rfl, by decide⟩
      · exact ⟨40, rfl, by decide⟩
    walk_at "ps"
    refine ⟨c.sg, kk, L, true, rfl, hc.sg, k1, k5, l41, fun z hv => ?_⟩
    have oz := OdL.vw hc.sg hv
    have zl : z.length = L := by rw [str_len]; exact hv.len
    have ftK : Fit (.list [chD c, .str z]) := (fz_lst (fza_cons ((fz_ch hc (by decide)).mono (Nat.le_refl _) (Nat.le_refl _)) (fza_cons ((fz_vw hc.sg hv).mono (show 1000 ≤ 170000 by decide) (show 0 ≤ 3 by decide)) fza_nil))).fit
    obtain ⟨SK, hSK⟩ : ∃ S, S = (PyData.list [chD c, .str z]).shown := ⟨_, rfl⟩
    walk_at "ps"
    refine w_reprF hSK rfl ftK ?_
    walk_at "ps"
    refine w_iRn (n := 4) (by decide) ?_
    walk_at "ps"
    refine for_inv (List.range 4) _ (fun i env => ∃ (y6 y7 y8 y9 y10 y11 : D), env = [.no, .deck, .py (.int (t : Nat)), .py (chD c), .py (.str z), .py (.str SK), y6, y7, y8, y9, y10, y11]) ⟨_, _, _, _, _, _, rfl⟩ (fun j u env hj h Nn2 hn2 => ?_) fun env h => ?_
    · obtain ⟨y6, y7, y8, y9, y10, y11, rfl⟩ := h
      walk_at "e"
      walk_at "p"
      with_reducible refine w_set ?_
      refine w_cutE (fun d => ∃ p, d = .py p ∧ Od p) (fun d hd => ?_) fun N hN => ?_
      · obtain ⟨p, rfl, od⟩ := hd
        have fv := ve_fb (sg := c.sg) od
        obtain ⟨S, hS⟩ : ∃ S, S = (veD c.sg p).shown := ⟨_, rfl⟩
        obtain ⟨SP, hSP⟩ : ∃ S, S = p.shown := ⟨_, rfl⟩
        obtain ⟨S2, hS2⟩ : ∃ S, S = (PyData.list [veD c.sg p, veD c.sg p]).shown := ⟨_, rfl⟩
        have e2 : S2 = Str.ofString "[" ++ S ++ Str.ofString ", " ++ S ++ Str.ofString "]" := by rw [hS2, hS, sh_pair]
        have f2 : FitB (.list [veD c.sg p, veD c.sg p]) := ((fb_lst (fba_cons fv (fba_cons fv fba_nil)))).fit
        have sl : S.length ≤ 1000 := by rw [hS]; exact fb_len fv (sm_ve _ _)
        have cl : ∀ (x y : Str) (a b : Nat), x.length ≤ a → y.length ≤ b → (x ++ y).length ≤ a + b := fun x y a b h1 h2 => by
          rw [str_len] at h1 h2 ⊢
          rw [app_cps, List.length_append]
          omega
        have c1 := cl (Str.ofString "[") S 1 1000 (by decide) sl
        have c2 := cl _ (Str.ofString ", ") _ 2 c1 (by decide)
        have c3 := cl _ S _ 1000 c2 sl
        have sz : ∀ a b : Nat, a + b ≤ 5000 → a + b ≤ sizeLine := fun a b h => Nat.le_trans h (by decide)
        walk_at "ps"
        refine ⟨c, 3, n, kk, p, rfl, hc, od, ?_⟩
        walk_at "ps"
        refine w_reprFB hS rfl (fv.fit (by decide) (by decide)) ?_
        walk_at "ps"
        refine w_reprFB hSP rfl (od.fit.fit (by decide) (by decide)) ?_
        walk_at "p"
        walk_at "p"
        walk_at "p"
        with_reducible refine w_set ?_
        refine w_cutE (fun d => d = .py (veD c.sg p)) (fun d hd => ?_) fun N2 hN2 => ?_
        · subst hd
          walk_at "ps"
          refine ⟨c, 3, n, kk, p, rfl, hc, od, ?_⟩
          walk_at "ps"
          refine w_reprFB hS2 rfl f2 ?_
          walk_at "ps"
          refine w_catS rfl rfl (sz _ _ (by rw [show (Str.ofString "[").length = 1 from by decide +kernel]; omega)) ?_
          walk_at "ps"
          refine w_catS rfl rfl (sz _ _ (by rw [show (Str.ofString ", ").length = 2 from by decide +kernel]; omega)) ?_
          walk_at "ps"
          refine w_catS rfl rfl (sz _ _ (by omega)) ?_
          walk_at "ps"
          refine w_catS rfl rfl (sz _ _ (by rw [show (Str.ofString "]").length = 1 from by decide +kernel]; omega)) ?_
          walk_at "ps"
          rw [← e2, str_ne_self]
          refine w_ork (fun q => by cases q) (fun _ => ?_)
          walk_at "ps"
          refine w_reprFB hSP rfl (od.fit.fit (by decide) (by decide)) ?_
          walk_at "ps"
          rw [str_ne_self]
          refine w_no rfl ?_
          walk_at "ps"
          exact hn2 _ ⟨_, _, _, _, _, _, rfl⟩
        · walk_at "ps"
          refine w_ifEk (fun q => ?_) (fun q => ?_)
          all_goals
            walk_at "ps"
            exact ⟨c, 3, n, kk, p, rfl, hc, od, hN2 _ rfl⟩
      · walk_at "ps"
        refine w_ifEk (fun q => ?_) (fun q => ?_)
        · walk_at "ps"
          exact hN _ ⟨_, rfl, od_str oz (by omega)⟩
        · walk_at "ps"
          exact ⟨c, 3, n, kk, L, z, rfl, hc, hv, fun p od => hN _ ⟨_, rfl, od⟩⟩
    · obtain ⟨y6, y7, y8, y9, y10, y11, rfl⟩ := h
      walk_at "ps"
      refine w_iRn (n := 4) (by decide) ?_
      walk_at "ps"
      refine for_inv (List.range 4) _ (fun i env => ∃ (y6 y7 y8 y9 y10 y11 : D), env = [.no, .deck, .py (.int (t : Nat)), .py (chD c), .py (.str z), .py (.str SK), y6, y7, y8, y9, y10, y11]) ⟨_, _, _, _, _, _, rfl⟩ (fun j u env hj h Nn2 hn2 => ?_) fun env h => ?_
      · obtain ⟨y6, y7, y8, y9, y10, y11, rfl⟩ := h
        walk_at "ps"
        refine lc_rel z.cps.toList sgD (fun _ p => ∃ r : Nat, p = .int (r : Nat) ∧ r < n) (by have := hv.len; omega) (fun a ha Q T hq => ?_) fun ds hd => ?_
        · walk_at "ps"
          refine w_ixT rfl rfl (z := lnD c.st) rfl ?_
          walk_at "ps"
          rw [show (c.st.map PyData.int).length = n from by rw [List.length_map, lst]]
          refine w_draw (by omega) fun r r0 r1 => ?_
          obtain ⟨r, rfl⟩ : ∃ m : Nat, r = (m : Nat) := ⟨r.toNat, by omega⟩
          exact hq _ ⟨r, rfl, by omega⟩
        obtain ⟨us, rfl, lu, hu2⟩ := all2_pick hd
        have odU : Od (.tuple (us.map fun u : Nat => PyData.int (u : Nat))) := od_tup (fun d hd => by
          obtain ⟨u, hu3, rfl⟩ := List.mem_map.mp hd
          have := hu2 u hu3
          exact (fb_int (k := 10) (show ((u : Nat) : Int).natAbs < 2 ^ 10 by omega) (by decide) (by decide)).mono (by decide) (by decide)) (by rw [List.length_map, lu, hv.len]; omega)
        walk_at "p"
        walk_at "e"
        walk_at "p"
        with_reducible refine w_set ?_
        refine w_cutE (fun d => ∃ p, d = .py p ∧ Od p) (fun d hd => ?_) fun N hN => ?_
        · obtain ⟨p, rfl, od⟩ := hd
          have fv := ce_fb (n := n) (L := L) od
          obtain ⟨S, hS⟩ : ∃ S, S = (ceD n L p).shown := ⟨_, rfl⟩
          obtain ⟨SP, hSP⟩ : ∃ S, S = p.shown := ⟨_, rfl⟩
          obtain ⟨S2, hS2⟩ : ∃ S, S = (PyData.list [ceD n L p, ceD n L p]).shown := ⟨_, rfl⟩
          have e2 : S2 = Str.ofString "[" ++ S ++ Str.ofString ", " ++ S ++ Str.ofString "]" := by rw [hS2, hS, sh_pair]
          have f2 : FitB (.list [ceD n L p, ceD n L p]) := ((fb_lst (fba_cons fv (fba_cons fv fba_nil)))).fit
          have sl : S.length ≤ 1000 := by rw [hS]; exact fb_len fv (sm_ce _ _ _)
          have cl : ∀ (x y : Str) (a b : Nat), x.length ≤ a → y.length ≤ b → (x ++ y).length ≤ a + b := fun x y a b h1 h2 => by
            rw [str_len] at h1 h2 ⊢
            rw [app_cps, List.length_append]
            omega
          have c1 := cl (Str.ofString "[") S 1 1000 (by decide) sl
          have c2 := cl _ (Str.ofString ", ") _ 2 c1 (by decide)
          have c3 := cl _ S _ 1000 c2 sl
          have sz : ∀ a b : Nat, a + b ≤ 5000 → a + b ≤ sizeLine := fun a b h => Nat.le_trans h (by decide)
          walk_at "ps"
          refine ⟨c, 3, n, kk, L, z, p, rfl, hc, zl, by omega, od, ?_⟩
          walk_at "ps"
          refine w_reprFB hS rfl (fv.fit (by decide) (by decide)) ?_
          walk_at "ps"
          refine w_reprFB hSP rfl (od.fit.fit (by decide) (by decide)) ?_
          walk_at "ps"
          refine ⟨c, 3, n, kk, L, z, p, rfl, hc, zl, by omega, od, ?_⟩
          with_reducible refine w_cut (fun env => env = [.no, .deck, .py (.int (t : Nat)), .py (chD c), .py (.str z), .py (.str SK), .py (.int (u : Nat)), .py p, .py (.str S), .py (.str SP), .py (ceD n L p), y11]) (fun env h => ?_) fun N2 hN2 => ?_
          · subst h
            walk_at "ps"
            refine ⟨c, 3, n, kk, L, z, p, rfl, hc, zl, by omega, od, ?_⟩
            walk_at "ps"
            refine w_reprFB hS2 rfl f2 ?_
            walk_at "ps"
            refine w_catS rfl rfl (sz _ _ (by rw [show (Str.ofString "[").length = 1 from by decide +kernel]; omega)) ?_
            walk_at "ps"
            refine w_catS rfl rfl (sz _ _ (by rw [show (Str.ofString ", ").length = 2 from by decide +kernel]; omega)) ?_
            walk_at "ps"
            refine w_catS rfl rfl (sz _ _ (by omega)) ?_
            walk_at "ps"
            refine w_catS rfl rfl (sz _ _ (by rw [show (Str.ofString "]").length = 1 from by decide +kernel]; omega)) ?_
            walk_at "ps"
            rw [← e2, str_ne_self]
            refine w_no rfl ?_
            walk_at "ps"
            refine w_reprFB hSP rfl (od.fit.fit (by decide) (by decide)) ?_
            walk_at "ps"
            rw [str_ne_self]
            refine w_no rfl ?_
            walk_at "ps"
            exact hn2 _ ⟨_, _, _, _, _, _, rfl⟩
          · walk_at "ps"
            refine w_ifk (fun q => ?_) (fun q => ?_)
            · walk_at "ps"
              refine ⟨c, 3, n, kk, L, z, p, rfl, hc, zl, by omega, od, ?_⟩
              walk_at "ps"
              exact hN2 _ rfl
            · walk_at "ps"
              exact hN2 _ rfl
        · walk_at "ps"
          refine w_ifEk (fun q => ?_) (fun q => ?_)
          · walk_at "ps"
            exact hN _ ⟨_, rfl, odU⟩
          · walk_at "ps"
            exact ⟨c, 3, n, kk, L, z, rfl, hc, hv, fun p od => hN _ ⟨_, rfl, od⟩⟩
      · obtain ⟨y6, y7, y8, y9, y10, y11, rfl⟩ := h
        walk_at "ps"
        refine w_reprF hSK rfl ftK ?_
        walk_at "ps"
        rw [str_ne_self]
        refine w_no rfl ?_
        walk_at "ps"
        exact hn _ ⟨_, _, _, _, _, _, _, _, _, _, rfl⟩
  · obtain ⟨y2, y3, y4, y5, y6, y7, y8, y9, y10, y11, rfl⟩ := h
    walk_at "ps"
    rfl
end
open RT VP
theorem all_mk {l : PySem.W.OpenLaw} {w : World} {K : PySem.W.Frag} {h : Heap} {mg : Str → Option Value} {fa : Addr} {tk_GAP tk_MAX_ROW : Tok} (X : K.In h) (G : h.Ns mainGlobals mg) (hfa : mg "law" = some (.ref fa))
    {f1 f2 f3 f4 f5 f6 f7 f8 f9 f10 f11 f12 f13 f14 f15 f16 : Addr}
    {od1 od2 od3 od4 od5 od6 od7 od8 od9 od10 od11 od12 od13 od14 od15 od16 an1 an2 an3 an4 an5 an6 an7 an8 an9 an10 an11 an12 an13 an14 an15 an16 : Option Addr} {sl1 sl2 sl3 sl4 sl5 sl6 sl7 sl8 sl9 sl10 sl11 sl12 sl13 sl14 sl15 sl16 : Array (Option Value)} {oc1 oc2 oc3 oc4 oc5 oc6 oc7 oc8 oc9 oc10 oc11 oc12 oc13 oc14 oc15 oc16 kV1 kV2 kV3 kV4 kV5 kV6 kV7 kV8 kV9 kV10 kV11 kV12 kV13 kV14 kV15 kV16 dc1 dc2 dc3 dc4 dc5 dc6 dc7 dc8 dc9 dc10 dc11 dc12 dc13 dc14 dc15 dc16 pm1 pm2 pm3 pm4 pm5 pm6 pm7 pm8 pm9 pm10 pm11 pm12 pm13 pm14 pm15 pm16 cd1 cd2 cd3 cd4 cd5 cd6 cd7 cd8 cd9 cd10 cd11 cd12 cd13 cd14 cd15 cd16 ct1 ct2 ct3 ct4 ct5 ct6 ct7 ct8 ct9 ct10 ct11 ct12 ct13 ct14 ct15 ct16 : Value}
    (a1 : PySem.W.nsIn K mainGlobals "_law_deck" = some (some (.ref f1))) (l1 : K.lookup f1 = some ⟨oc1, od1, .func (PySem.W.fnOf "_law_deck" "_law_deck" (defArgs s_law_deck) (defBody s_law_deck) (defScope s_law_deck) .none kV1 dc1 pm1 an1 cd1 ct1), sl1⟩) (c1 : PySem.W.codeIn K cd1 "_law_deck" = true) (k1 : PySem.W.keepIn K (.ref f1) = true)
    (a2 : PySem.W.nsIn K mainGlobals "_law_draw" = some (some (.ref f2))) (l2 : K.lookup f2 = some ⟨oc2, od2, .func (PySem.W.fnOf "_law_draw" "_law_draw" (defArgs s_law_draw) (defBody s_law_draw) (defScope s_law_draw) .none kV2 dc2 pm2 an2 cd2 ct2), sl2⟩) (c2 : PySem.W.codeIn K cd2 "_law_draw" = true) (k2 : PySem.W.keepIn K (.ref f2) = true)
    (a3 : PySem.W.nsIn K mainGlobals "_law_pick" = some (some (.ref f3))) (l3 : K.lookup f3 = some ⟨oc3, od3, .func (PySem.W.fnOf "_law_pick" "_law_pick" (defArgs s_law_pick) (defBody s_law_pick) (defScope s_law_pick) .none kV3 dc3 pm3 an3 cd3 ct3), sl3⟩) (c3 : PySem.W.codeIn K cd3 "_law_pick" = true) (k3 : PySem.W.keepIn K (.ref f3) = true)
    (a4 : PySem.W.nsIn K mainGlobals "_law_shuffled" = some (some (.ref f4))) (l4 : K.lookup f4 = some ⟨oc4, od4, .func (PySem.W.fnOf "_law_shuffled" "_law_shuffled" (defArgs s_law_shuffled) (defBody s_law_shuffled) (defScope s_law_shuffled) .none kV4 dc4 pm4 an4 cd4 ct4), sl4⟩) (c4 : PySem.W.codeIn K cd4 "_law_shuffled" = true) (k4 : PySem.W.keepIn K (.ref f4) = true)
    (a5 : PySem.W.nsIn K mainGlobals "_law_line" = some (some (.ref f5))) (l5 : K.lookup f5 = some ⟨oc5, od5, .func (PySem.W.fnOf "_law_line" "_law_line" (defArgs s_law_line) (defBody s_law_line) (defScope s_law_line) .none kV5 dc5 pm5 an5 cd5 ct5), sl5⟩) (c5 : PySem.W.codeIn K cd5 "_law_line" = true) (k5 : PySem.W.keepIn K (.ref f5) = true)
    (a6 : PySem.W.nsIn K mainGlobals "_law_chain" = some (some (.ref f6))) (l6 : K.lookup f6 = some ⟨oc6, od6, .func (PySem.W.fnOf "_law_chain" "_law_chain" (defArgs s_law_chain) (defBody s_law_chain) (defScope s_law_chain) .none kV6 dc6 pm6 an6 cd6 ct6), sl6⟩) (c6 : PySem.W.codeIn K cd6 "_law_chain" = true) (k6 : PySem.W.keepIn K (.ref f6) = true)
    (a7 : PySem.W.nsIn K mainGlobals "_law_view" = some (some (.ref f7))) (l7 : K.lookup f7 = some ⟨oc7, od7, .func (PySem.W.fnOf "_law_view" "_law_view" (defArgs s_law_view) (defBody s_law_view) (defScope s_law_view) .none kV7 dc7 pm7 an7 cd7 ct7), sl7⟩) (c7 : PySem.W.codeIn K cd7 "_law_view" = true) (k7 : PySem.W.keepIn K (.ref f7) = true)
    (a8 : PySem.W.nsIn K mainGlobals "_law_odd_view" = some (some (.ref f8))) (l8 : K.lookup f8 = some ⟨oc8, od8, .func (PySem.W.fnOf "_law_odd_view" "_law_odd_view" (defArgs s_law_odd_view) (defBody s_law_odd_view) (defScope s_law_odd_view) .none kV8 dc8 pm8 an8 cd8 ct8), sl8⟩) (c8 : PySem.W.codeIn K cd8 "_law_odd_view" = true) (k8 : PySem.W.keepIn K (.ref f8) = true)
    (a9 : PySem.W.nsIn K mainGlobals "_law_odd_course" = some (some (.ref f9))) (l9 : K.lookup f9 = some ⟨oc9, od9, .func (PySem.W.fnOf "_law_odd_course" "_law_odd_course" (defArgs s_law_odd_course) (defBody s_law_odd_course) (defScope s_law_odd_course) .none kV9 dc9 pm9 an9 cd9 ct9), sl9⟩) (c9 : PySem.W.codeIn K cd9 "_law_odd_course" = true) (k9 : PySem.W.keepIn K (.ref f9) = true)
    (a10 : PySem.W.nsIn K mainGlobals "_law_view_due" = some (some (.ref f10))) (l10 : K.lookup f10 = some ⟨oc10, od10, .func (PySem.W.fnOf "_law_view_due" "_law_view_due" (defArgs s_law_view_due) (defBody s_law_view_due) (defScope s_law_view_due) .none kV10 dc10 pm10 an10 cd10 ct10), sl10⟩) (c10 : PySem.W.codeIn K cd10 "_law_view_due" = true) (k10 : PySem.W.keepIn K (.ref f10) = true)
    (a11 : PySem.W.nsIn K mainGlobals "_law_is_whole" = some (some (.ref f11))) (l11 : K.lookup f11 = some ⟨oc11, od11, .func (PySem.W.fnOf "_law_is_whole" "_law_is_whole" (defArgs s_law_is_whole) (defBody s_law_is_whole) (defScope s_law_is_whole) .none kV11 dc11 pm11 an11 cd11 ct11), sl11⟩) (c11 : PySem.W.codeIn K cd11 "_law_is_whole" = true) (k11 : PySem.W.keepIn K (.ref f11) = true)
    (a12 : PySem.W.nsIn K mainGlobals "_law_course_due" = some (some (.ref f12))) (l12 : K.lookup f12 = some ⟨oc12, od12, .func (PySem.W.fnOf "_law_course_due" "_law_course_due" (defArgs s_law_course_due) (defBody s_law_course_due) (defScope s_law_course_due) .none kV12 dc12 pm12 an12 cd12 ct12), sl12⟩) (c12 : PySem.W.codeIn K cd12 "_law_course_due" = true) (k12 : PySem.W.keepIn K (.ref f12) = true)
    (a13 : PySem.W.nsIn K mainGlobals "view_error" = some (some (.ref f13))) (l13 : K.lookup f13 = some ⟨oc13, od13, .func (PySem.W.fnOf "view_error" "view_error" (defArgs s_view_error) (defBody s_view_error) (defScope s_view_error) .none kV13 dc13 pm13 an13 cd13 ct13), sl13⟩) (c13 : PySem.W.codeIn K cd13 "view_error" = true) (k13 : PySem.W.keepIn K (.ref f13) = true)
    (a14 : PySem.W.nsIn K mainGlobals "is_whole" = some (some (.ref f14))) (l14 : K.lookup f14 = some ⟨oc14, od14, .func (PySem.W.fnOf "is_whole" "is_whole" (defArgs s_is_whole) (defBody s_is_whole) (defScope s_is_whole) .none kV14 dc14 pm14 an14 cd14 ct14), sl14⟩) (c14 : PySem.W.codeIn K cd14 "is_whole" = true) (k14 : PySem.W.keepIn K (.ref f14) = true)
    (a15 : PySem.W.nsIn K mainGlobals "course_error" = some (some (.ref f15))) (l15 : K.lookup f15 = some ⟨oc15, od15, .func (PySem.W.fnOf "course_error" "course_error" (defArgs s_course_error) (defBody s_course_error) (defScope s_course_error) .none kV15 dc15 pm15 an15 cd15 ct15), sl15⟩) (c15 : PySem.W.codeIn K cd15 "course_error" = true) (k15 : PySem.W.keepIn K (.ref f15) = true)
    (a16 : PySem.W.nsIn K mainGlobals "law" = some (some (.ref f16))) (l16 : K.lookup f16 = some ⟨oc16, od16, .func (PySem.W.fnOf "law" "law" (defArgs s_law) (defBody s_law) (defScope s_law) .none kV16 dc16 pm16 an16 cd16 ct16), sl16⟩) (c16 : PySem.W.codeIn K cd16 "law" = true) (k16 : PySem.W.keepIn K (.ref f16) = true)
    (z1 : PySem.W.nsIn K mainGlobals "abs" = some none) (z2 : PySem.W.nsIn K mainGlobals "int" = some none) (z3 : PySem.W.nsIn K mainGlobals "len" = some none) (z4 : PySem.W.nsIn K mainGlobals "range" = some none) (z5 : PySem.W.nsIn K mainGlobals "repr" = some none) (z6 : PySem.W.nsIn K mainGlobals "isinstance" = some none) (z7 : PySem.W.nsIn K mainGlobals "tuple" = some none) (z8 : PySem.W.nsIn K mainGlobals "list" = some none) (z9 : PySem.W.nsIn K mainGlobals "str" = some none) (z10 : PySem.W.nsIn K mainGlobals "sum" = some none) (z11 : PySem.W.nsIn K mainGlobals "all" = some none) (z12 : PySem.W.nsIn K mainGlobals "any" = some none) (z13 : PySem.W.nsIn K mainGlobals "zip" = some none) (z14 : PySem.W.nsIn K mainGlobals "enumerate" = some none) (z15 : PySem.W.nsIn K mainGlobals "sorted" = some none) (z16 : PySem.W.nsIn K mainGlobals "reversed" = some none) (z17 : PySem.W.nsIn K mainGlobals "bool" = some none) (z18 : PySem.W.nsIn K mainGlobals "dict" = some none) (z19 : PySem.W.nsIn K mainGlobals "max" = some none) (z20 : PySem.W.nsIn K mainGlobals "min" = some none) (z21 : PySem.W.nsIn K mainGlobals "ord" = some none) (z22 : PySem.W.nsIn K mainGlobals "chr" = some none) (z23 : PySem.W.nsIn K mainGlobals "divmod" = some none) (z24 : PySem.W.nsIn K mainGlobals "set" = some none)
    (aK_GAP : PySem.W.nsIn K mainGlobals "GAP" = some (some (.str "." tk_GAP)))
    (aK_MAX_ROW : PySem.W.nsIn K mainGlobals "MAX_ROW" = some (some (.int 40 tk_MAX_ROW)))
    : ∃ fd : FuncData, (∀ (s : Shared) (v : Value), BindsTo s fd ⟨[v], []⟩ [("script", v)]) ∧ ∀ base : Heap, K.In base → base.Ns mainGlobals mg → FG l.prog w K mg base 5 fa fd ["script"] (spLaw K) := by
  have e := hfa.symm.trans (PySem.W.mg_of X G a16)
  cases e
  have F_law_deck := fun_mk (st := s_law_deck) l1 c1 k1
  have m_law_deck := PySem.W.mg_of X G a1
  have b_law_deck := F_law_deck.binds (ps := ["script"]) fun _ _ _ _ _ _ us hl => match us, hl with | [_], _ => rfl
  have F_law_draw := fun_mk (st := s_law_draw) l2 c2 k2
  have m_law_draw := PySem.W.mg_of X G a2
  have b_law_draw := F_law_draw.binds (ps := ["deck", "many"]) fun _ _ _ _ _ _ us hl => match us, hl with | [_, _], _ => rfl
  have F_law_pick := fun_mk (st := s_law_pick) l3 c3 k3
  have m_law_pick := PySem.W.mg_of X G a3
  have b_law_pick := F_law_pick.binds (ps := ["deck", "items"]) fun _ _ _ _ _ _ us hl => match us, hl with | [_, _], _ => rfl
  have F_law_shuffled := fun_mk (st := s_law_shuffled) l4 c4 k4
  have m_law_shuffled := PySem.W.mg_of X G a4
  have b_law_shuffled := F_law_shuffled.binds (ps := ["deck", "items"]) fun _ _ _ _ _ _ us hl => match us, hl with | [_, _], _ => rfl
  have F_law_line := fun_mk (st := s_law_line) l5 c5 k5
  have m_law_line := PySem.W.mg_of X G a5
  have b_law_line := F_law_line.binds (ps := ["deck", "many"]) fun _ _ _ _ _ _ us hl => match us, hl with | [_, _], _ => rfl
  have F_law_chain := fun_mk (st := s_law_chain) l6 c6 k6
  have m_law_chain := PySem.W.mg_of X G a6
  have b_law_chain := F_law_chain.binds (ps := ["deck", "states", "signs"]) fun _ _ _ _ _ _ us hl => match us, hl with | [_, _, _], _ => rfl
  have F_law_view := fun_mk (st := s_law_view) l7 c7 k7
  have m_law_view := PySem.W.mg_of X G a7
  have b_law_view := F_law_view.binds (ps := ["deck", "signs", "length", "is_gapped"]) fun _ _ _ _ _ _ us hl => match us, hl with | [_, _, _, _], _ => rfl
  have F_law_odd_view := fun_mk (st := s_law_odd_view) l8 c8 k8
  have m_law_odd_view := PySem.W.mg_of X G a8
  have b_law_odd_view := F_law_odd_view.binds (ps := ["deck", "chain", "view"]) fun _ _ _ _ _ _ us hl => match us, hl with | [_, _, _], _ => rfl
  have F_law_odd_course := fun_mk (st := s_law_odd_course) l9 c9 k9
  have m_law_odd_course := PySem.W.mg_of X G a9
  have b_law_odd_course := F_law_odd_course.binds (ps := ["deck", "chain", "view"]) fun _ _ _ _ _ _ us hl => match us, hl with | [_, _, _], _ => rfl
  have F_law_view_due := fun_mk (st := s_law_view_due) l10 c10 k10
  have m_law_view_due := PySem.W.mg_of X G a10
  have b_law_view_due := F_law_view_due.binds (ps := ["chain", "value"]) fun _ _ _ _ _ _ us hl => match us, hl with | [_, _], _ => rfl
  have F_law_is_whole := fun_mk (st := s_law_is_whole) l11 c11 k11
  have m_law_is_whole := PySem.W.mg_of X G a11
  have b_law_is_whole := F_law_is_whole.binds (ps := ["value", "low", "high"]) fun _ _ _ _ _ _ us hl => match us, hl with | [_, _, _], _ => rfl
  have F_law_course_due := fun_mk (st := s_law_course_due) l12 c12 k12
  have m_law_course_due := PySem.W.mg_of X G a12
  have b_law_course_due := F_law_course_due.binds (ps := ["chain", "view", "value"]) fun _ _ _ _ _ _ us hl => match us, hl with | [_, _, _], _ => rfl
  have F_view_error := fun_mk (st := s_view_error) l13 c13 k13
  have m_view_error := PySem.W.mg_of X G a13
  have b_view_error := F_view_error.binds (ps := ["chain", "value"]) fun _ _ _ _ _ _ us hl => match us, hl with | [_, _], _ => rfl
  have F_is_whole := fun_mk (st := s_is_whole) l14 c14 k14
  have m_is_whole := PySem.W.mg_of X G a14
  have b_is_whole := F_is_whole.binds (ps := ["value"]) fun _ _ _ _ _ _ us hl => match us, hl with | [_], _ => rfl
  have F_course_error := fun_mk (st := s_course_error) l15 c15 k15
  have m_course_error := PySem.W.mg_of X G a15
  have b_course_error := F_course_error.binds (ps := ["chain", "view", "value"]) fun _ _ _ _ _ _ us hl => match us, hl with | [_, _, _], _ => rfl
  have F_law := fun_mk (st := s_law) l16 c16 k16
  have m_law := PySem.W.mg_of X G a16
  have b_law := F_law.binds (ps := ["script"]) fun _ _ _ _ _ _ us hl => match us, hl with | [_], _ => rfl
  have B := blt_mk X G z1 z2 z3 z4 z5 z6 z7 z8 z9 z10 z11 z12 z13 z14 z15 z16 z17 z18 z19 z20 z21 z22 z23 z24
  have main : ∀ base : Heap, K.In base → base.Ns mainGlobals mg → FG l.prog w K mg base 5 fa (PySem.W.fnOf "law" "law" (defArgs s_law) (defBody s_law) (defScope s_law) .none kV16 dc16 pm16 an16 cd16 ct16) ["script"] (spLaw K) := by
    intro base KB GB
    have M_GAP := PySem.W.mg_of X G aK_GAP
    have M_MAX_ROW := PySem.W.mg_of X G aK_MAX_ROW
    have c_law_deck := FnAt.mk' (base := base) (P := l.prog) (w := w) F_law_deck (ok_law_deck B F_law_deck) m_law_deck b_law_deck
    have c_law_draw := FnAt.mk' (base := base) (P := l.prog) (w := w) F_law_draw (ok_law_draw B F_law_draw) m_law_draw b_law_draw
    have c_law_draw_1 := VP.FnAt.imp (sp' := (spP K psDraw)) c_law_draw fun _ _ _ _ => VP.draw_of
    have c_law_pick := FnAt.mk' (base := base) (P := l.prog) (w := w) F_law_pick (ok_law_pick B F_law_pick c_law_draw) m_law_pick b_law_pick
    have c_law_pick_1 := VP.FnAt.imp (sp' := (spP K psPick)) c_law_pick fun _ _ _ _ => VP.pick_of
    have c_law_shuffled := FnAt.mk' (base := base) (P := l.prog) (w := w) F_law_shuffled (ok_law_shuffled B F_law_shuffled c_law_draw_1) m_law_shuffled b_law_shuffled
    have c_law_line := FnAt.mk' (base := base) (P := l.prog) (w := w) F_law_line (ok_law_line B F_law_line c_law_draw_1 c_law_pick_1) m_law_line b_law_line
    have c_law_chain := FnAt.mk' (base := base) (P := l.prog) (w := w) F_law_chain (ok_law_chain B F_law_chain c_law_draw_1 c_law_shuffled c_law_line) m_law_chain b_law_chain
    have c_law_view := FnAt.mk' (base := base) (P := l.prog) (w := w) F_law_view (ok_law_view B F_law_view c_law_pick_1) m_law_view b_law_view
    have c_law_odd_view := FnAt.mk' (base := base) (P := l.prog) (w := w) F_law_odd_view (ok_law_odd_view B F_law_odd_view c_law_draw_1 c_law_pick_1) m_law_odd_view b_law_odd_view
    have c_law_odd_course := FnAt.mk' (base := base) (P := l.prog) (w := w) F_law_odd_course (ok_law_odd_course B F_law_odd_course c_law_draw_1 c_law_pick_1) m_law_odd_course b_law_odd_course
    have c_law_view_due := FnAt.mk' (base := base) (P := l.prog) (w := w) F_law_view_due (ok_law_view_due B F_law_view_due) m_law_view_due b_law_view_due
    have c_law_is_whole := FnAt.mk' (base := base) (P := l.prog) (w := w) F_law_is_whole (ok_law_is_whole B F_law_is_whole) m_law_is_whole b_law_is_whole
    have c_law_course_due := FnAt.mk' (base := base) (P := l.prog) (w := w) F_law_course_due (ok_law_course_due B F_law_course_due c_law_is_whole) m_law_course_due b_law_course_due
    have c_view_error := FnAt.mk' (base := base) (P := l.prog) (w := w) F_view_error (ok_view_error B M_GAP M_MAX_ROW F_view_error) m_view_error b_view_error
    have c_is_whole := FnAt.mk' (base := base) (P := l.prog) (w := w) F_is_whole (ok_is_whole B F_is_whole) m_is_whole b_is_whole
    have c_course_error := FnAt.mk' (base := base) (P := l.prog) (w := w) F_course_error (ok_course_error B F_course_error c_is_whole) m_course_error b_course_error
    exact ok_law B F_law c_law_deck c_law_draw_1 c_law_pick_1 c_law_chain c_law_view c_law_odd_view c_law_odd_course c_law_view_due c_law_course_due c_view_error c_course_error
  refine ⟨_, ?_, main⟩
  exact fun s v => .of_eq rfl
end VK
open PySem PySem.W PyProof.Rows
set_option maxHeartbeats 0 in
theorem PySem.Challenge.cw_veiledchains_k08_what_are_views_and_cour_holds : PySem.Challenge.rw_veiledchains_k08_what_are_views_and_cour.Holds := by
  w_on; o_law; k_head; (case hw => w_witness2)
  k_fill
  refine VB.walkG (l := PySem.Challenge.rw_veiledchains_k08_what_are_views_and_cour) (n := 63) (k := 5) (x := "script") (sp := VB.spLaw) rfl (by decide) rfl ⟨rfl, by decide, by decide⟩ (fun w h Y => PySem.W.kIn_of Y) ?F (fun K H a ns hl _ hS => ⟨a, ns, rfl, hS, hl, fun _ => rfl⟩)
  case F =>
    intro w mg fa h KX G hmg
    refine' VK.all_mk KX G hmg ?a1 ?l1 ?c1 ?k1 ?a2 ?l2 ?c2 ?k2 ?a3 ?l3 ?c3 ?k3 ?a4 ?l4 ?c4 ?k4 ?a5 ?l5 ?c5 ?k5 ?a6 ?l6 ?c6 ?k6 ?a7 ?l7 ?c7 ?k7 ?a8 ?l8 ?c8 ?k8 ?a9 ?l9 ?c9 ?k9 ?a10 ?l10 ?c10 ?k10 ?a11 ?l11 ?c11 ?k11 ?a12 ?l12 ?c12 ?k12 ?a13 ?l13 ?c13 ?k13 ?a14 ?l14 ?c14 ?k14 ?a15 ?l15 ?c15 ?k15 ?a16 ?l16 ?c16 ?k16 ?z1 ?z2 ?z3 ?z4 ?z5 ?z6 ?z7 ?z8 ?z9 ?z10 ?z11 ?z12 ?z13 ?z14 ?z15 ?z16 ?z17 ?z18 ?z19 ?z20 ?z21 ?z22 ?z23 ?z24 ?aK_GAP ?aK_MAX_ROW
    (case a1 => k_is); (case l1 => k_is); (case c1 => k_is); (case k1 => k_is); (case a2 => k_is); (case l2 => k_is); (case c2 => k_is); (case k2 => k_is); (case a3 => k_is); (case l3 => k_is); (case c3 => k_is); (case k3 => k_is); (case a4 => k_is); (case l4 => k_is); (case c4 => k_is); (case k4 => k_is); (case a5 => k_is); (case l5 => k_is); (case c5 => k_is); (case k5 => k_is); (case a6 => k_is); (case l6 => k_is); (case c6 => k_is); (case k6 => k_is); (case a7 => k_is); (case l7 => k_is); (case c7 => k_is); (case k7 => k_is); (case a8 => k_is); (case l8 => k_is); (case c8 => k_is); (case k8 => k_is); (case a9 => k_is); (case l9 => k_is); (case c9 => k_is); (case k9 => k_is); (case a10 => k_is); (case l10 => k_is); (case c10 => k_is); (case k10 => k_is); (case a11 => k_is); (case l11 => k_is); (case c11 => k_is); (case k11 => k_is); (case a12 => k_is); (case l12 => k_is); (case c12 => k_is); (case k12 => k_is); (case a13 => k_is); (case l13 => k_is); (case c13 => k_is); (case k13 => k_is); (case a14 => k_is); (case l14 => k_is); (case c14 => k_is); (case k14 => k_is); (case a15 => k_is); (case l15 => k_is); (case c15 => k_is); (case k15 => k_is); (case a16 => k_is); (case l16 => k_is); (case c16 => k_is); (case k16 => k_is)
    (case z1 => k_is); (case z2 => k_is); (case z3 => k_is); (case z4 => k_is); (case z5 => k_is); (case z6 => k_is); (case z7 => k_is); (case z8 => k_is); (case z9 => k_is); (case z10 => k_is); (case z11 => k_is); (case z12 => k_is); (case z13 => k_is); (case z14 => k_is); (case z15 => k_is); (case z16 => k_is); (case z17 => k_is); (case z18 => k_is); (case z19 => k_is); (case z20 => k_is); (case z21 => k_is); (case z22 => k_is); (case z23 => k_is); (case z24 => k_is)
    (case aK_GAP => k_is); (case aK_MAX_ROW => k_is)
#print axioms PySem.Challenge.cw_veiledchains_k08_what_are_views_and_cour_holds
