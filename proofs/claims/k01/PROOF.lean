import PyProof.Rows.All
import Wide.All
import OpenK.AllK
import Wide.FinOn
import PyProof.EqAt
import PyProof.EqKinds
import PyProof.TupleCall
import HandS.ForMost
import HandS.ForExc
import HandS.Gcd
import HandS.Wide
import HandS.Style
import HandS.Flow
import HandS.ExcIs
import KE.RegKIsAll
import PySem.Challenge.RW_veiledchains_k01_whole_fractions_beside
set_option Elab.async false
set_option linter.all false
set_option maxHeartbeats 4000000
set_option maxRecDepth 100000
/-! VB1: defs that show data (repr): the promise of a def where no repr is under way further up. -/
namespace VB
open PySem PySem.Spec PyProof.Rows L2
/-! ### promises of defs that call repr: nothing is being shown around them -/
abbrev Gu (A : Around) : Prop := A.guards = some []
structure FnG (P : Program) (w : World) (K : PySem.W.Frag) (mg : Str → Option Value) (base : Heap) (CX : CXT) (k : Nat)
    (f : Addr) (fd : FuncData) (ps : List Str) (sp : Sp) : Prop where
  len : ∀ vs H Q E, sp vs H Q E → vs.length = ps.length
  run : ∀ (A : Around) (out : List Env) (s : Shared) (H : Hp) (args : Args) (us : List Value) (vs : List V) (Q : VK) (E : XK),
    Gu A → Room k A → Env0 P w K mg base A out s H → BindsTo s fd args (ps.zip us) → Vals vs us → sp vs H Q E →
    codeAny (model P w) A (.call (.ref f) args) (CR CX out P w H s Q E) s
section
variable {P : Program} {w : World} {K : PySem.W.Frag} {mg : Str → Option Value} {base : Heap} {CX : CXT} {j k : Nat}
  {f : Addr} {fd : FuncData} {ps : List Str} {sp : Sp}
theorem FnG.of (F : FnOk P w K mg base CX k f fd ps sp) : FnG P w K mg base CX k f fd ps sp :=
  ⟨F.len, fun A out s H args us vs Q E _ => F.run A out s H args us vs Q E⟩
theorem FnG.mono (F : FnG P w K mg base CX j f fd ps sp) (h : j ≤ k) : FnG P w K mg base CX k f fd ps sp :=
  ⟨F.len, fun A out s H args us vs Q E g r => F.run A out s H args us vs Q E g (r.mono h)⟩
end
/-- one entry of a def: its body's reading at this very entry -/
theorem enter {CX : CXT} {P : Program} {w : World} {K : PySem.W.Frag} {mg : Str → Option Value} {base : Heap} {k : Nat} {f : Addr}
    {nm qual : Str} {params : Arguments} {body : List Stmt} {sc : Scope} {dV kV doc pm cdv ct oc : Value} {an od : Option Addr}
    {osl : Array (Option Value)} {N ps : List Str} {A : Around} {out : List Env} {s : Shared} {H : Hp} {args : Args} {us : List Value} {vs : List V} {Q : VK} {E : XK}
    (lk : K.lookup f = some ⟨oc, od, .func (PySem.W.fnOf nm qual params body sc dV kV doc pm an cdv ct), osl⟩) (hcd : PySem.W.codeIn K cdv qual = true) (S : FnScope N ps sc)
    (hl : vs.length = ps.length) (hr : Room (k + 1) A) (e0 : Env0 P w K mg base A out s H)
    (hb : BindsTo s (PySem.W.fnOf nm qual params body sc dV kV doc pm an cdv ct) args (ps.zip us)) (r : Vals vs us)
    (hq : ∃ t, PSs (cxOf CX P w K mg base N qual sc f cdv A out s H E) body t ∧ t { nx := fun _ H' => Q .non H', rt := Q } (start N vs) H) :
    codeAny (model P w) A (.call (.ref f) args) (CR CX out P w H s Q E) s := by
  obtain ⟨t, ht, hq⟩ := hq
  have old : ∀ b o, base.get? b = some o → s.heap.get? b = some o := fun b o z => (e0.bs b o z).1
  have KX : K.In s.heap := e0.mod.kin.keeps old
  have kinds : ∀ y ∈ ps.zip us, sc.names.lookup y.1 = some .local ∨
      (sc.names.lookup y.1 = some .cell ∧ ((cellsFrom (s.heap.objs.size + 1) sc.names []).lookup y.1).isSome = true) := by
    intro y hy
    obtain ⟨n, v⟩ := y
    rcases S.par n (List.of_mem_zip hy).1 with q | q
    · exact .inl q
    · exact .inr ⟨q, PySem.W.cellsFrom_some _ _ _ (.inl q)⟩
  refine codeAny_call_function hr.depth (KX _ _ lk) rfl S.co S.gen rfl (PySem.W.codeRec_of KX hcd) (hb _ _ _ _ ?_)
  refine wpAny_newFunctionEnv_cells S.kind kinds fun env he s1 x => ?_
  subst he
  refine ⟨(e0.mod.nolimit.keeps old).keeps x.toInCall.keep, codeAny_func ?_⟩
  have I := inv_start (CX := CX) (mg := mg) (E := E) (f := f) (cd := cdv) (qual := qual) S hr.hd e0 hl r x
  refine wpAny_mono (ht.run [] s1 _ H _ I hq) (fun fl s' hs => ?_) fun _ _ z => z
  cases fl with
  | ret u => obtain ⟨v, σ', H', J, rv, q⟩ := hs; exact ⟨v, H', J.os, J.bare, J.base, J.hok, rv, q⟩
  | next => obtain ⟨σ', H', J, q⟩ := hs; exact ⟨.non, H', J.os, J.bare, J.base, J.hok, rfl, q⟩
  | brk => obtain ⟨_, _, _, q⟩ := hs; exact q.elim
  | cont => obtain ⟨_, _, _, q⟩ := hs; exact q.elim
section
variable {P : Program} {w : World} {K : PySem.W.Frag} {mg : Str → Option Value} {base : Heap}
theorem okG {CX : CXT} {x qual : Str} {st : Stmt} {f : Addr} {fd : FuncData} {N ps : List Str} {k : Nat} {sp : Sp} (F : Fun K x qual st f fd) (S : FnScope N ps (defScope st))
    (len : ∀ vs H Q E, sp vs H Q E → vs.length = ps.length)
    (hbody : ∀ (cdv : Value) (A : Around) (out : List Env) (s : Shared) (H : Hp) (vs : List V) (Q : VK) (E : XK),
      Gu (A.deeper (envOfC qual (defScope st) s.heap.objs.size f cdv)) → Room k (A.deeper (envOfC qual (defScope st) s.heap.objs.size f cdv)) → sp vs H Q E →
      ∃ t, PSs (cxOf CX P w K mg base N qual (defScope st) f cdv A out s H E).nox (defBody st) t ∧ t { nx := fun _ H' => Q .non H', rt := Q } (start N vs) H) :
    FnG P w K mg base CX (k + 1) f fd ps sp := by
  obtain ⟨oc, od, kV, doc, pm, an, cdv, ct, osl, rfl, lk, hcd⟩ := F.ex
  refine ⟨len, fun A out s H args us vs Q E g hr e0 hb r hsp => ?_⟩
  refine enter lk hcd S (len _ _ _ _ hsp) hr e0 hb r ?_
  obtain ⟨t, h, q⟩ := hbody cdv A out s H vs Q E g (hr.deeper _) hsp
  exact ⟨t, h.nox, q⟩
end

/-! ### calls: positional and by keywords, E may lean on the slots (a try around) -/
/-- no exception is let out -/
theorem passN {X : Cx} (σ : L2.St) : PassesAt (L2.CX X.prog X.w) X σ E0 := fun pins H s e s' I c => passL pins σ H s e s' I c
/-- what is wished of a call's arguments: gV puts them in the parameters' order -/
def tCK (sp : Sp) (gV : List V → List V → List V) (E : L2.St → XK) (t tk : TA) : TE := fun σ H Q => t σ H fun vs H1 => tk σ H1 fun zs H2 => sp (gV vs zs) H2 Q (E σ)
section
variable {X : Cx} {k : Nat} {f : Addr} {fd : FuncData} {ps ks : List Str} {sp : Sp} {E : L2.St → XK} {x : Str} {p pos : Pos}
  {e : Expr} {es : List Expr} {kws : List Keyword} {t tk : TA} {g : List Value → List Value → List Value} {gV : List V → List V → List V}
abbrev FG (P : Program) (w : World) (K : PySem.W.Frag) (mg : Str → Option Value) (base : Heap) := FnG P w K mg base (L2.CX P w)
theorem runG {pins : List (Addr × Obj)} {σ : L2.St} {H : Hp} {s : Shared} {Q : VK} {us ws : List Value} {vs zs : List V} (F : FG X.prog X.w X.K X.mg X.base k f fd ps sp) (gu : Gu X.A) (hr : Room k X.A)
    (hb : KBinds X.K fd ps ks g gV) (hx : PassesAt (L2.CX X.prog X.w) X σ (E σ)) (I : Inv X pins σ H s) (r : Vals vs us) (rz : Vals zs ws) (h : sp (gV vs zs) H Q (E σ)) :
    wpAny (model X.prog X.w) X.A (call (.ref f) us (ks.zip ws)) (EP X pins σ Q) X.xe s := by
  have r2 := hb.rel r rz
  have hl : (g us ws).length = ps.length := r2.length ▸ F.len _ _ _ _ h
  refine wpAny_call (codeAny_mono (F.run X.A X.stack s H ⟨us, ks.zip ws⟩ _ _ Q (E σ) gu hr I.env0 (hb.to s us ws I.kIn hl) r2 h) fun r s' hq => ?_)
  cases r with
  | error e => exact hx pins H s e s' I hq
  | ok fl =>
    cases fl with
    | ret u => exact I.after hq
    | next => exact hq.elim
    | brk => exact hq.elim
    | cont => exact hq.elim
/-- positional arguments alone: gV is the first list -/
theorem kb_pos (hb : Binds X.K fd ps []) : KBinds X.K fd ps [] (fun us _ => us) (fun vs _ => vs) where
  to := fun s us ws hK hl => by
    have z := hb s us hK (by rw [List.append_nil]; exact hl)
    rw [List.append_nil] at z
    exact z
  rel := fun r _ => r
/-- f(e, ..) -/
theorem pe_f (F : FG X.prog X.w X.K X.mg X.base k f fd ps sp) (gu : Gu X.A) (hr : Room k X.A) (hm : X.mg x = some (.ref f)) (hk : PySem.W.keepIn X.K (.ref f) = true)
    (hb : Binds X.K fd ps []) (hx : ∀ σ, PassesAt (L2.CX X.prog X.w) X σ (E σ)) (ha : PA X (e :: es) t) (hg : Gl X x := by rfl) (hdb : (x == ("__debug__" : Str)) = false := by decide)
    (he : starEach (e :: es) X.env = (false, eval e X.env) :: starEach es X.env := by rfl) (hpl : (backTo pos (starEach es X.env)).any (·.1) = false := by rfl) :
    PE X (.Call (.Name x p) (e :: es) [] pos) (tCallS sp E t) := by
  constructor
  intro pins s σ H Q I h
  refine wpAny_Call_Name_kw (ld_glob I hg hm (PySem.W.callWith_K (h₀ := X.base) I.ok.mod.kin hk (thn (ha.run pos pins s σ H _ I h) fun us s1 z => ?_) he hpl) hdb)
  obtain ⟨vs, H1, I1, r, q⟩ := z
  exact ⟨I1.kIn, runG (ks := []) (ws := []) (zs := []) F gu hr (kb_pos hb) (hx σ) I1 r .nil q⟩
/-- f() -/
theorem pe_f0 (F : FG X.prog X.w X.K X.mg X.base k f fd ps sp) (gu : Gu X.A) (hr : Room k X.A) (hm : X.mg x = some (.ref f)) (hk : PySem.W.keepIn X.K (.ref f) = true)
    (hb : Binds X.K fd ps []) (hx : ∀ σ, PassesAt (L2.CX X.prog X.w) X σ (E σ)) (hg : Gl X x := by rfl) (hdb : (x == ("__debug__" : Str)) = false := by decide) :
    PE X (.Call (.Name x p) [] [] pos) (tCallS sp E tNil) := by
  constructor
  intro pins s σ H Q I h
  refine wpAny_Call_Name_kw (ld_glob I hg hm (PySem.W.callWith_K0 I.kIn hk ?_) hdb)
  exact runG (ks := []) (us := []) (ws := []) (zs := []) F gu hr (kb_pos hb) (hx σ) I .nil .nil h
/-- f(k = e, ..) -/
theorem pe_k0 (F : FG X.prog X.w X.K X.mg X.base k f fd ps sp) (gu : Gu X.A) (hr : Room k X.A) (hm : X.mg x = some (.ref f)) (hk : PySem.W.keepIn X.K (.ref f) = true)
    (hb : KBinds X.K fd ps ks g gV) (hx : ∀ σ, PassesAt (L2.CX X.prog X.w) X σ (E σ)) (hkw : PK X kws tk) (hg : Gl X x := by rfl)
    (hall : (backToKw pos (keywordEach kws X.env)).all (·.1.isSome) = true := by rfl) (hks : (backToKw pos (keywordEach kws X.env)).filterMap (·.1) = ks := by rfl)
    (hdb : (x == ("__debug__" : Str)) = false := by decide)
    (hpl : ((backTo pos (starEach [] X.env)).any (·.1) || (backToKw pos (keywordEach kws X.env)).any (·.1.isNone)) = false := by rfl) :
    PE X (.Call (.Name x p) [] kws pos) (tCK sp gV E tNil tk) := by
  constructor
  intro pins s σ H Q I h
  refine wpAny_Call_Name_kw (ld_glob I hg hm (PySem.W.callWith_KW0 (h₀ := X.base) I.ok.mod.kin hk hall ?_ hpl) hdb)
  refine thn (hkw.run pos pins s σ H _ I h) fun ws s2 z => ?_
  obtain ⟨zs, H2, I2, rz, q⟩ := z
  rw [hks]
  exact ⟨I2.kIn, runG (us := []) F gu hr hb (hx σ) I2 .nil rz q⟩
/-- f(e, .., k = v, ..) -/
theorem pe_k (F : FG X.prog X.w X.K X.mg X.base k f fd ps sp) (gu : Gu X.A) (hr : Room k X.A) (hm : X.mg x = some (.ref f)) (hk : PySem.W.keepIn X.K (.ref f) = true)
    (hb : KBinds X.K fd ps ks g gV) (hx : ∀ σ, PassesAt (L2.CX X.prog X.w) X σ (E σ)) (ha : PA X (e :: es) t) (hkw : PK X kws tk) (hg : Gl X x := by rfl)
    (hall : (backToKw pos (keywordEach kws X.env)).all (·.1.isSome) = true := by rfl) (hks : (backToKw pos (keywordEach kws X.env)).filterMap (·.1) = ks := by rfl)
    (hdb : (x == ("__debug__" : Str)) = false := by decide) (he : starEach (e :: es) X.env = (false, eval e X.env) :: starEach es X.env := by rfl)
    (hpl : ((backTo pos (starEach (e :: es) X.env)).any (·.1) || (backToKw pos (keywordEach kws X.env)).any (·.1.isNone)) = false := by rfl) :
    PE X (.Call (.Name x p) (e :: es) kws pos) (tCK sp gV E t tk) := by
  constructor
  intro pins s σ H Q I h
  refine wpAny_Call_Name_kw (ld_glob I hg hm ?_ hdb)
  refine PySem.W.callWith_KW (h₀ := X.base) I.ok.mod.kin hk hall (thn (ha.run pos pins s σ H _ I h) fun us s1 z1 => ?_) hpl he
  obtain ⟨vs, H1, I1, r, q1⟩ := z1
  refine thn (hkw.run pos pins s1 σ H1 _ I1 q1) fun ws s2 z => ?_
  obtain ⟨zs, H2, I2, rz, q⟩ := z
  rw [hks]
  exact ⟨I2.kIn, runG F gu hr hb (hx σ) I2 r rz q⟩
end
/-- a body's entry, exceptions allowed -/
theorem okX {P : Program} {w : World} {K : PySem.W.Frag} {mg : Str → Option Value} {base : Heap} {x qual : Str} {st : Stmt} {f : Addr} {fd : FuncData} {N ps : List Str} {k : Nat} {sp : Sp}
    (F : Fun K x qual st f fd) (S : FnScope N ps (defScope st)) (len : ∀ vs H Q E, sp vs H Q E → vs.length = ps.length)
    (hbody : ∀ (cdv : Value) (A : Around) (out : List Env) (s : Shared) (H : Hp) (vs : List V) (Q : VK) (E : XK),
      Gu (A.deeper (envOfC qual (defScope st) s.heap.objs.size f cdv)) → Room k (A.deeper (envOfC qual (defScope st) s.heap.objs.size f cdv)) → sp vs H Q E →
      ∃ t, PSs (cxOf (L2.CX P w) P w K mg base N qual (defScope st) f cdv A out s H E) (defBody st) t ∧ t { nx := fun _ H' => Q .non H', rt := Q } (start N vs) H) :
    FG P w K mg base (k + 1) f fd ps sp := by
  obtain ⟨oc, od, kV, doc, pm, an, cdv, ct, osl, rfl, lk, hcd⟩ := F.ex
  refine ⟨len, fun A out s H args us vs Q E g hr e0 hb r hsp => ?_⟩
  exact enter lk hcd S (len _ _ _ _ hsp) hr e0 hb r (hbody cdv A out s H vs Q E g (hr.deeper _) hsp)
/-- X() of an own exception class without an __init__ of its own -/
theorem pmk_own0 {X : Cx} {C : Addr} {bmB : List Value} {B newId initId : String} {x : Str} {p pos : Pos} (F : ExcBaseFacts B newId initId bmB) (q : PySem.W.excIn X.K C bmB newId = true)
    (gC : X.mg x = some (.ref C)) (kC : PySem.W.keepIn X.K (.ref C) = true) (r : Raises X (.ref C)) (hg : Gl X x := by rfl) (hdb : (x == ("__debug__" : Str)) = false := by decide) :
    PMk X (.Call (.Name x p) [] [] pos) (fun _ H Q => Q (.ref C) none H) := by
  intro pins s σ H Q I h
  refine wpAny_Call_Name_kw (ld_glob I hg gC (PySem.W.callWith_K0 I.kIn kC ?_) hdb)
  show wpAny _ _ (call (.ref C) []) _ _ _
  obtain ⟨bm, N, nm, qn, bs, hdct, sn, sub, ab, col, dd, k0, k1, k2, k3, k5, mN, hC, hN, hni, T⟩ := exc_obj I.kIn q
  refine wpAny_call_exc_subT F T hC hN hni (fun h' e hm => ?_) (Nat.zero_le _)
  exact mk_of I hm r h (I.hok.gone hm.new)
/-! ### the law's own call -/
section
variable {P : Program} {w : World} {K : PySem.W.Frag} {mg mb : Str → Option Value} {k : Nat} {fa a : Addr} {fd : FuncData} {x : Str} {sp : Sp} {s1 : Shared} {vs : List Value} {ns : List Int}
theorem top_at {Hh : Hp} (KX : K.In s1.heap) (hns : s1.heap.Ns mainGlobals mg) (hb : s1.heap.Ns builtinsNs mb) (hbb : ∀ y : Str, y ≠ "__name__" → mb y = bootBuiltins y) (hlim : s1.heap.NoLimit) (hg : s1.gens = #[])
    (ha : s1.heap.get? a = some { cls := .type "list", data := .seq vs.toArray }) (hr : Room k callerA)
    (F : ∀ base : Heap, K.In base → base.Ns mainGlobals mg → FG P w K mg base k fa fd [x] sp) (hbind : ∀ (s : Shared) (u : Value), BindsTo s fd ⟨[u], []⟩ [(x, u)])
    (hO : Only Hh) (hok : HOk P w Hh s1.heap) (own : ∀ b, Hh b ≠ none → b = a) (out : Hh a ≠ none → K.lookup a = none)
    (hsp : sp [.ref a] Hh (fun v _ => v = .bl true) fun _ _ _ => False) :
    codeAny (model P w) callerA (.call (.ref fa) ⟨[.ref a], []⟩) (fun r s' => r = .ok (.ret (.bool true)) ∧ OldK s1.heap s'.heap ∧ s'.os = s1.os ∧ AllBare s'.gens) s1 := by
  have noD : ∀ {b : Addr} {o : Obj} {es : Array DictEntry} {ep : Nat}, s1.heap.get? b = some o → o.data = .dict es ep → Hh b = none := by
    intro b o es ep e d
    refine Classical.byContradiction fun z => ?_
    have e' := own b z
    subst e'
    rw [ha] at e
    cases e
    exact nomatch (show Data.seq vs.toArray _ = Data.dict es ep from d)
  have hid : ∀ {b : Addr} {m : Str → Option Value}, s1.heap.Ns b m → (hidT s1.heap Hh).Ns b m := by
    intro b m z
    obtain ⟨o, es, ep, e, d, r⟩ := z
    exact ⟨o, es, ep, hidT_get e (noD e d), d, r⟩
  have KH : K.In (hidT s1.heap Hh) := by
    intro b o e
    refine hidT_get (KX b o e) (Classical.byContradiction fun z => ?_)
    have e' := own b z
    subst e'
    rw [out z] at e
    cases e
  obtain ⟨mc, l1, l2⟩ := hlim
  have hM : Mod K mg (hidT s1.heap Hh) := ⟨KH, hid hns, ⟨mb, hid hb, hbb⟩, ⟨mc, hid l1, l2⟩⟩
  have e0 : Env0 P w K mg (hidT s1.heap Hh) callerA [] s1 Hh :=
    ⟨rfl, hM, fun b o e => of_hidT e, Nat.le_of_eq (hidT_size _ _), trivial, (fun b z => absurd (show b ∈ ([] : List Addr) from z) List.not_mem_nil), hok, .of_eq hg⟩
  refine codeAny_mono ((F _ KH (hid hns)).run callerA [] s1 Hh ⟨[.ref a], []⟩ [.ref a] [.ref a] _ _ rfl hr e0 (hbind s1 (.ref a)) (.cons rfl .nil) hsp) fun r s' h => ?_
  cases r with
  | error e =>
    obtain ⟨_, _, _, _, _, _, _, _, _, _, _, _, z⟩ := h
    exact z.elim
  | ok fl =>
    cases fl with
    | next => exact h.elim
    | brk => exact h.elim
    | cont => exact h.elim
    | ret u =>
      obtain ⟨v, H', os, bare, un, hok', rv, q⟩ := h
      obtain rfl : v = .bl true := q
      obtain rfl : u = Value.bool true := rv
      refine ⟨rfl, OldK.of_keep fun b o e => ?_, os, bare⟩
      cases z : Hh b with
      | none => exact un.keep b o e z (fun y => absurd (show b ∈ ([] : List Addr) from y) List.not_mem_nil) List.not_mem_nil
      | some u =>
        rcases hO b with y | ⟨ob, xs, y⟩
        · rw [z] at y
          cases y
        · obtain ⟨e1, _⟩ := hok b _ y
          obtain ⟨e2, _⟩ := hok' b _ (un.frzs b ob _ y)
          rw [e] at e1
          cases e1
          exact e2
end
/-- the goal behind k_head -/
theorem walkG {l : PySem.W.OpenLaw} {n k : Nat} {q : Program} {loose : List Str} {XP : (Str → Option Value) → Heap → Prop} {YP : World → Heap → Prop} {d : DefRec} {K : Params → PySem.W.Frag} {sp : PySem.W.Frag → Sp} {x : Str}
    (hn : l.most = some n) (hn2 : n ≤ sizeLine) (hdf : d.params.defaults = []) (hr : Room k callerA)
    (hY : ∀ (w : World) (h : Heap), YP w h → (K w.params).In h)
    (F : ∀ (w : World) (mg : Str → Option Value) (fa : Addr) (h : Heap), (K w.params).In h → h.Ns mainGlobals mg → mg d.name = some (.ref fa) →
      ∃ fd : FuncData, (∀ (s : Shared) (u : Value), BindsTo s fd ⟨[u], []⟩ [(x, u)]) ∧
        ∀ base : Heap, (K w.params).In base → base.Ns mainGlobals mg → FG l.prog w (K w.params) mg base k fa fd [x] (sp (K w.params)))
    (hsp : ∀ (K : PySem.W.Frag) (H : Hp) (a : Addr) (ns : List Int), ns.length ≤ n → Only H → SqL K H a (ns.map V.int) → sp K [.ref a] H (fun v _ => v = .bl true) fun _ _ _ => False) :
    PySem.W.WalkO q loose XP YP l.row.toRowW d [] (fun f vs => PySem.call f vs) := by
  refine Att.attach_call hn hdf fun w s0 s1 mg mb fa o pm cd doc a vs ns G Y ho hd hcd hmg hobj hints hlen hg => ?_
  have KX := hY w _ Y
  obtain ⟨fd, hb, hF⟩ := F w mg fa _ KX G.T.g hmg
  have rv := vals_ints hints
  have lenV := hints.length
  have fits : ns.length ≤ sizeLine := Nat.le_trans hlen hn2
  cases hk : (K w.params).lookup a with
  | some ob =>
    have e := KX a ob hk
    rw [hobj] at e
    cases e
    refine top_at (Hh := fun _ => none) KX G.T.g G.T.b G.T.builtins G.T.nolimit hg hobj hr hF hb (fun _ => .inl rfl) (fun b u z => nomatch (show (none : Option HO) = some u from z)) (fun b z => absurd rfl z) (fun z => absurd rfl z) ?_
    exact hsp _ _ a ns hlen (fun _ => .inl rfl) (.inr ⟨_, vs.toArray, _, hk, rfl, rfl, rfl, by rw [List.size_toArray, lenV]; exact fits, by simpa using rv⟩)
  | none =>
    let Hh : Hp := fun b => if b = a then some (.frz { cls := .type "list", data := .seq vs.toArray } (.lst (ns.map V.int))) else none
    have at_a : Hh a = some (.frz { cls := .type "list", data := .seq vs.toArray } (.lst (ns.map V.int))) := if_pos rfl
    have off : ∀ b, b ≠ a → Hh b = none := fun b hb => if_neg hb
    have hO : Only Hh := fun b => by
      by_cases hb : b = a
      · exact .inr ⟨_, _, hb ▸ at_a⟩
      · exact .inl (off b hb)
    refine top_at (Hh := Hh) KX G.T.g G.T.b G.T.builtins G.T.nolimit hg hobj hr hF hb hO (fun b u z => ?_) (fun b z => Classical.byContradiction fun y => z (off b y)) (fun _ => hk) (hsp _ _ a ns hlen hO (.inl (.inr ⟨_, at_a⟩)))
    by_cases hb : b = a
    · subst hb
      rw [at_a] at z
      cases z
      exact ⟨hobj, by rw [List.length_map]; exact fits, vs, _, rv, hobj⟩
    · rw [off b hb] at z
      cases z
end VB

/-! VB2: repr of data -/
namespace VB
open PySem PySem.Spec PyProof.Rows L2
mutual
theorem dp_nodict {K : PySem.W.Frag} {H : Hp} : ∀ (d : PyData) (v : V), Dp K H v d → d.hasDict = false
  | .none, _, _ => by simp only [PyData.hasDict]
  | .bool _, _, _ => by simp only [PyData.hasDict]
  | .int _, _, _ => by simp only [PyData.hasDict]
  | .str _, _, _ => by simp only [PyData.hasDict]
  | .list ds, _, h => by
    cases h with
    | lst _ ha => simp only [PyData.hasDict]; exact dpa_nodict ds _ ha
  | .tuple ds, _, h => by
    cases h with
    | tup _ ha => simp only [PyData.hasDict]; exact dpa_nodict ds _ ha
  | .dict _, _, h => by cases h
theorem dpa_nodict {K : PySem.W.Frag} {H : Hp} : ∀ (ds : List PyData) (vs : List V), DpAll K H vs ds → PyData.hasDictAll ds = false
  | [], _, _ => by simp only [PyData.hasDictAll]
  | d :: ds, _, h => by
    cases h with
    | cons h1 h2 => simp only [PyData.hasDictAll, dp_nodict d _ h1, dpa_nodict ds _ h2, Bool.or_self]
end
/-- repr(v), v data without dicts -/
def rRepr (K : PySem.W.Frag) : List V → Hp → VK → Prop := fun xs H Q => ∃ v d, xs = [v] ∧ Dp K H v d ∧ d.showable = true ∧ d.shown.length ≤ sizeLine ∧ d.depth < 60 ∧ Q (.str d.shown) H
theorem call_repr {X : Cx} (gu : Gu X.A) (hu : X.A.units + 64 < cLine) : CallR X (.builtin "repr") (rRepr X.K) := by
  intro pins s σ H xs us Q I r h
  obtain ⟨v, d, rfl, hd, hs, hz, hdep, q⟩ := h
  cases r with
  | cons rv rn =>
    cases rn
    rename_i u
    cases hd with
    | non =>
      cases rv
      refine PySem.P.repr_of_none ⟨.str _, H, I.tok _, ⟨_, rfl⟩, ?_⟩
      simpa only [PyData.shown] using q
    | bl b =>
      cases rv
      refine PySem.P.repr_of_bool ⟨.str _, H, I.tok _, ⟨_, rfl⟩, ?_⟩
      simpa only [PyData.shown] using q
    | int i =>
      obtain ⟨t, rfl⟩ := rv
      refine PySem.P.repr_of_int (by simpa [PyData.showable] using hs) ⟨.str _, H, I.tok _, ⟨_, rfl⟩, ?_⟩
      simpa only [PyData.shown] using q
    | str x =>
      obtain ⟨t, rfl⟩ := rv
      refine PySem.P.repr_of_str ⟨.str _, H, I.tok _, ⟨_, rfl⟩, ?_⟩ (by simpa only [PyData.shown] using hz)
      simpa only [PyData.shown] using q
    | lst h1 h2 =>
      have hdd := Dp.lst h1 h2
      have nd := dp_nodict _ _ hdd
      cases rv
      obtain ⟨as, hr⟩ := Dp.reads I _ _ _ hdd rfl
      exact PySem.repr_of_reads' hr hs (fun z => by rw [nd] at z; cases z) gu (by omega) (fun _ _ z => z) (fun h' u tk hk => ⟨.str _, H, I.kept hk, ⟨_, rfl⟩, q⟩) hz
    | tup h1 h2 =>
      have hdd := Dp.tup h1 h2
      have nd := dp_nodict _ _ hdd
      cases rv
      obtain ⟨as, hr⟩ := Dp.reads I _ _ _ hdd rfl
      exact PySem.repr_of_reads' hr hs (fun z => by rw [nd] at z; cases z) gu (by omega) (fun _ _ z => z) (fun h' u tk hk => ⟨.str _, H, I.kept hk, ⟨_, rfl⟩, q⟩) hz
end VB

/-! VB3: defs by their names; readings, one construct after another -/
namespace VB
open PySem PySem.Spec PyProof.Rows L2
/-! ### a def of the top, as it stands -/
structure FnAt (P : Program) (w : World) (K : PySem.W.Frag) (mg : Str → Option Value) (base : Heap) (st : Stmt) (k : Nat) (x : Str) (ps : List Str) (sp : Sp) : Prop where
  ex : ∃ (f : Addr) (fd : FuncData), Fun K x x st f fd ∧ FG P w K mg base k f fd ps sp ∧ mg x = some (.ref f) ∧ Binds K fd ps []
theorem FnAt.mk' {P : Program} {w : World} {K : PySem.W.Frag} {mg : Str → Option Value} {base : Heap} {st : Stmt} {k : Nat} {x : Str} {ps : List Str} {sp : Sp} {f : Addr} {fd : FuncData}
    (F : Fun K x x st f fd) (G : FG P w K mg base k f fd ps sp) (m : mg x = some (.ref f)) (b : Binds K fd ps []) : FnAt P w K mg base st k x ps sp := ⟨⟨f, fd, F, G, m, b⟩⟩
/-- how keywords are put in order, for one def of the text -/
structure KwIs (st : Stmt) (x : Str) (ps ks : List Str) (g : List Value → List Value → List Value) (gV : List V → List V → List V) : Prop where
  to : ∀ (kV doc pm : Value) (an : Option Addr) (cdv ct : Value) (us ws : List Value), (g us ws).length = ps.length →
    bindArgs (PySem.W.fnOf x x (defArgs st) (defBody st) (defScope st) .none kV doc pm an cdv ct) ⟨us, ks.zip ws⟩ = pure (ps.zip (g us ws))
  rel : ∀ {vs : List V} {us : List Value} {zs : List V} {ws : List Value}, Vals vs us → Vals zs ws → Vals (gV vs zs) (g us ws)
section
variable {X : Cx} {k : Nat} {st : Stmt} {ps ks : List Str} {sp : Sp} {E : L2.St → XK} {x : Str} {p pos : Pos}
  {e : Expr} {es : List Expr} {kws : List Keyword} {t tk : TA} {g : List Value → List Value → List Value} {gV : List V → List V → List V}
theorem pe_c (c : FnAt X.prog X.w X.K X.mg X.base st k x ps sp) (gu : Gu X.A) (hr : Room k X.A) (hx : ∀ σ, PassesAt (L2.CX X.prog X.w) X σ (E σ)) (ha : PA X (e :: es) t)
    (hg : Gl X x := by rfl) (hdb : (x == ("__debug__" : Str)) = false := by decide) (he : starEach (e :: es) X.env = (false, eval e X.env) :: starEach es X.env := by rfl)
    (hpl : (backTo pos (starEach es X.env)).any (·.1) = false := by rfl) : PE X (.Call (.Name x p) (e :: es) [] pos) (tCallS sp E t) := by
  obtain ⟨f, fd, F, G, m, b⟩ := c.ex
  exact pe_f G gu hr m F.kp b hx ha hg hdb he hpl
theorem pe_c0 (c : FnAt X.prog X.w X.K X.mg X.base st k x ps sp) (gu : Gu X.A) (hr : Room k X.A) (hx : ∀ σ, PassesAt (L2.CX X.prog X.w) X σ (E σ))
    (hg : Gl X x := by rfl) (hdb : (x == ("__debug__" : Str)) = false := by decide) : PE X (.Call (.Name x p) [] [] pos) (tCallS sp E tNil) := by
  obtain ⟨f, fd, F, G, m, b⟩ := c.ex
  exact pe_f0 G gu hr m F.kp b hx hg hdb
theorem kbinds {K : PySem.W.Frag} {f : Addr} {fd : FuncData} (F : Fun K x x st f fd) (kw : KwIs st x ps ks g gV) : KBinds K fd ps ks g gV := by
  obtain ⟨oc, od, kV, doc, pm, an, cdv, ct, osl, rfl, lk, hcd⟩ := F.ex
  exact ⟨fun s us ws _ hl => .of_eq (kw.to kV doc pm an cdv ct us ws hl), fun r q => kw.rel r q⟩
theorem pe_ck0 (c : FnAt X.prog X.w X.K X.mg X.base st k x ps sp) (kw : KwIs st x ps ks g gV) (gu : Gu X.A) (hr : Room k X.A) (hx : ∀ σ, PassesAt (L2.CX X.prog X.w) X σ (E σ)) (hkw : PK X kws tk)
    (hg : Gl X x := by rfl) (hall : (backToKw pos (keywordEach kws X.env)).all (·.1.isSome) = true := by rfl) (hks : (backToKw pos (keywordEach kws X.env)).filterMap (·.1) = ks := by rfl)
    (hdb : (x == ("__debug__" : Str)) = false := by decide)
    (hpl : ((backTo pos (starEach [] X.env)).any (·.1) || (backToKw pos (keywordEach kws X.env)).any (·.1.isNone)) = false := by rfl) : PE X (.Call (.Name x p) [] kws pos) (tCK sp gV E tNil tk) := by
  obtain ⟨f, fd, F, G, m, b⟩ := c.ex
  exact pe_k0 G gu hr m F.kp (kbinds F kw) hx hkw hg hall hks hdb hpl
theorem pe_ck (c : FnAt X.prog X.w X.K X.mg X.base st k x ps sp) (kw : KwIs st x ps ks g gV) (gu : Gu X.A) (hr : Room k X.A) (hx : ∀ σ, PassesAt (L2.CX X.prog X.w) X σ (E σ)) (ha : PA X (e :: es) t) (hkw : PK X kws tk)
    (hg : Gl X x := by rfl) (hall : (backToKw pos (keywordEach kws X.env)).all (·.1.isSome) = true := by rfl) (hks : (backToKw pos (keywordEach kws X.env)).filterMap (·.1) = ks := by rfl)
    (hdb : (x == ("__debug__" : Str)) = false := by decide) (he : starEach (e :: es) X.env = (false, eval e X.env) :: starEach es X.env := by rfl)
    (hpl : ((backTo pos (starEach (e :: es) X.env)).any (·.1) || (backToKw pos (keywordEach kws X.env)).any (·.1.isNone)) = false := by rfl) : PE X (.Call (.Name x p) (e :: es) kws pos) (tCK sp gV E t tk) := by
  obtain ⟨f, fd, F, G, m, b⟩ := c.ex
  exact pe_k G gu hr m F.kp (kbinds F kw) hx ha hkw hg hall hks hdb he hpl
end
/-! ### // and % of any size, * of any size -/
/-- // by a divisor below 2 ^ 9000, not 0 -/
def CDv (_ j : Int) : Prop := j ≠ 0 ∧ j.natAbs.log2 < 9000
theorem op_dv {X : Cx} : OpR X (binaryOp .FloorDiv) (rI CDv fun i j => .int (i.fdiv j)) := opI fun _ _ _ _ _ _ _ hc q => floordiv_int hc.1 q (.inl (PyProof.noPylong_of_log2 hc.2))
theorem op_ml {X : Cx} : OpR X (binaryOp .Mult) (rI IntMulOk fun i j => .int (i * j)) := opI fun _ _ _ _ _ _ _ hc q => mul_int q hc

/-! ### named rules of calls -/
def rLen (K : PySem.W.Frag) : List V → Hp → VK → Prop := fun xs H Q => ∃ p ys, xs = [.ref p] ∧ (SqL K H p ys ∨ SqT K H p ys) ∧ Q (.int ys.length) H
def rAbs : List V → Hp → VK → Prop := fun xs H Q => ∃ i, xs = [.int i] ∧ Q (.int (if i < 0 then -i else i)) H
def rInt : List V → Hp → VK → Prop := fun xs H Q => (∃ i, xs = [.int i] ∧ Q (.int i) H) ∨ ∃ k, xs = [.bl k] ∧ Q (.int (if k then 1 else 0)) H
def rLenS : List V → Hp → VK → Prop := fun xs H Q => ∃ z : Str, xs = [.str z] ∧ z.length ≤ sizeLine ∧ Q (.int z.length) H
theorem cl_len {X : Cx} : CallR X (.builtin "len") (rLen X.K) := call_len_seq
theorem cl_abs {X : Cx} : CallR X (.builtin "abs") rAbs := call_abs
theorem cl_int {X : Cx} : CallR X (.type "int") rInt := call_int1
/-! ### what a construct wants, by name -/
def bK (R : Bool → Hp → Prop) : VK := fun x H => ∃ k, x = .bl k ∧ R k H
def gK (Q : VK) : V → V → Hp → Prop := fun x y H => ∃ a v, x = .ref a ∧ DGet H a y (some v) ∧ Q v H
def pK (v : V) (S : Hp → Prop) : V → V → Hp → Prop := fun x y H => ∃ a H4, x = .ref a ∧ DPut H a y v H4 ∧ S H4
def twoK (f : V → V → Hp → Prop) : List V → Hp → Prop := fun vs H => ∃ v w, vs = [v, w] ∧ f v w H
def iK (RO : Option Int → Hp → Prop) : VK := fun x H => ∃ i, x = .int i ∧ RO (some i) H
def newT (Q : VK) : List V → Hp → Prop := fun xs H => xs.length ≤ sizeLine ∧ ∀ p, H p = none → Q (.ref p) (upd H p (.tup xs))
def newL (Q : VK) : List V → Hp → Prop := fun xs H => xs.length ≤ sizeLine ∧ ∀ p, H p = none → Q (.ref p) (upd H p (.lst xs))
def ifS (t u : TS) (D : Ends) (σ : L2.St) : Bool → Hp → Prop := fun b H => if b = true then t D σ H else u D σ H
def ifE (ta tb : TE) (σ : L2.St) (Q : VK) : Bool → Hp → Prop := fun b H => if b = true then ta σ H Q else tb σ H Q
def andK (d : TT) (σ : L2.St) (R : Bool → Hp → Prop) : Bool → Hp → Prop := fun b H => if b = true then d σ H R else R false H
def orK (d : TT) (σ : L2.St) (R : Bool → Hp → Prop) : Bool → Hp → Prop := fun b H => if b = true then R true H else d σ H R
def andV (tb : TE) (σ : L2.St) (Q : VK) : VK := fun x H => ∃ c, x = .bl c ∧ if c = true then tb σ H Q else Q (.bl false) H
def orV (tb : TE) (σ : L2.St) (Q : VK) : VK := fun x H => ∃ c, x = .bl c ∧ if c = true then Q (.bl true) H else tb σ H Q
def notV (Q : VK) : VK := fun x H => ∃ c, x = .bl c ∧ Q (.bl (!c)) H
def bmK (K : PySem.W.Frag) (T : String) (f : V → List V → Hp → VK → Prop) (σ : L2.St) (ts : TA) (Q : VK) : VK := fun x H => tyV K T x H ∧ ts σ H fun xs H2 => f x xs H2 Q
/-! ### readings -/
section
variable {σ : L2.St} {H : Hp} {D : Ends} {i j : Nat} {v x y : V} {ta tb te : TE} {t u : TS} {c d : TT} {ts : TA} {Q : VK} {R : Bool → Hp → Prop} {RA : List V → Hp → Prop} {r : R2} {RS : L2.St → Hp → Prop} {b : Bool} {K : PySem.W.Frag}
theorem r_seq (h : t { D with nx := u D } σ H) : tSeq t u D σ H := h
theorem r_next (h : D.nx σ H) : tNext D σ H := h
theorem r_set (h : te σ H fun x H1 => D.nx (σ.set i (some x)) H1) : tAsg te (gName i) D σ H := h
theorem r_par (h : ts σ H (twoK fun v w H1 => D.nx ((σ.set i (some v)).set j (some w)) H1)) : tPar i j ts D σ H := h
theorem r_two {f : V → V → Hp → Prop} (h : f x y H) : twoK f [x, y] H := ⟨x, y, rfl, h⟩
def threeK (f : V → V → V → Hp → Prop) : List V → Hp → Prop := fun vs H => ∃ u v w, vs = [u, v, w] ∧ f u v w H
theorem r_par3 {l : Nat} (h : ts σ H (threeK fun u v w H1 => D.nx (((σ.set i (some u)).set j (some v)).set l (some w)) H1)) : tPar3 i j l ts D σ H := h
theorem r_three {f : V → V → V → Hp → Prop} {z : V} (h : f x y z H) : threeK f [x, y, z] H := ⟨x, y, z, rfl, h⟩
theorem r_ret (h : te σ H D.rt) : tRet te D σ H := h
theorem r_drop (h : te σ H fun _ H1 => D.nx σ H1) : tDrop te D σ H := h
theorem r_if (h : c σ H (ifS t u D σ)) : tIfS c t u D σ H := h
theorem r_ifs (h1 : b = true → t D σ H) (h2 : b = false → u D σ H) : ifS t u D σ b H := by
  cases b with
  | true => exact h1 rfl
  | false => exact h2 rfl
theorem r_yes (e : b = true) (h : t D σ H) : ifS t u D σ b H := r_ifs (fun _ => h) fun z => by rw [e] at z; cases z
theorem r_no (e : b = false) (h : u D σ H) : ifS t u D σ b H := r_ifs (fun z => by rw [e] at z; cases z) fun _ => h
theorem r_ife (h1 : b = true → ta σ H Q) (h2 : b = false → tb σ H Q) : ifE ta tb σ Q b H := by
  cases b with
  | true => exact h1 rfl
  | false => exact h2 rfl
theorem r_ifx (h : c σ H (ifE ta tb σ Q)) : tIf c ta tb σ H Q := h
theorem r_and (h : c σ H (andK d σ R)) : tAnd c d σ H R := h
theorem r_or (h : c σ H (orK d σ R)) : tOr c d σ H R := h
theorem r_andk (h1 : b = true → d σ H R) (h2 : b = false → R false H) : andK d σ R b H := by
  cases b with
  | true => exact h1 rfl
  | false => exact h2 rfl
theorem r_ork (h1 : b = true → R true H) (h2 : b = false → d σ H R) : orK d σ R b H := by
  cases b with
  | true => exact h1 rfl
  | false => exact h2 rfl
theorem r_not (h : c σ H fun b H1 => R (!b) H1) : tNot c σ H R := h
theorem r_andV (h : ta σ H (andV tb σ Q)) : tAndV ta tb σ H Q := h
theorem r_orV (h : ta σ H (orV tb σ Q)) : tOrV ta tb σ H Q := h
theorem r_notV (h : ta σ H (notV Q)) : tNotV ta σ H Q := h
theorem r_nv (h : Q (.bl (!b)) H) : notV Q (.bl b) H := ⟨b, rfl, h⟩
theorem r_av (h1 : b = true → tb σ H Q) (h2 : b = false → Q (.bl false) H) : andV tb σ Q (.bl b) H := ⟨b, rfl, by
  cases b with
  | true => exact h1 rfl
  | false => exact h2 rfl⟩
theorem r_ov (h1 : b = true → Q (.bl true) H) (h2 : b = false → tb σ H Q) : orV tb σ Q (.bl b) H := ⟨b, rfl, by
  cases b with
  | true => exact h1 rfl
  | false => exact h2 rfl⟩
theorem r_var (h : σ[i]? = some (some v)) (q : Q v H) : tVar i σ H Q := ⟨v, h, q⟩
theorem r_c (q : Q v H) : tC v σ H Q := q
theorem r_op (h : ta σ H fun x H1 => tb σ H1 fun y H2 => r x y H2 Q) : tOp r ta tb σ H Q := h
theorem r_un {f : V → Hp → VK → Prop} (h : ta σ H fun x H1 => f x H1 Q) : tUn f ta σ H Q := h
theorem r_I0 {g : Int → Int → V} {a b : Int} (q : Q (g a b) H) : rI0 g (.int a) (.int b) H Q := ⟨a, b, rfl, rfl, q⟩
theorem r_I {C : Int → Int → Prop} {g : Int → Int → V} {a b : Int} (hc : C a b) (q : Q (g a b) H) : rI C g (.int a) (.int b) H Q := ⟨a, b, rfl, rfl, hc, q⟩
theorem r_U {g : Int → V} {a : Int} (q : Q (g a) H) : rU g (.int a) H Q := ⟨a, rfl, q⟩
theorem r_eq (hs : scal x y = true) (q : Q (.bl (decide (x = y))) H) : rEq x y H Q := ⟨hs, q⟩
theorem r_ne (hs : scal x y = true) (q : Q (.bl (!decide (x = y))) H) : rNe x y H Q := ⟨hs, q⟩
theorem r_test (h : te σ H (bK R)) : tTest te σ H R := h
theorem r_tB (h : te σ H (bK R)) : tB te σ H R := h
theorem r_bl (q : R b H) : bK R (.bl b) H := ⟨b, rfl, q⟩
theorem r_tup (h : ts σ H (newT Q)) : tTup ts σ H Q := h
theorem r_lst (h : ts σ H (newL Q)) : tLst ts σ H Q := h
theorem r_newT {xs : List V} (hl : xs.length ≤ 1000) (h : ∀ p, H p = none → Q (.ref p) (upd H p (.tup xs))) : newT Q xs H := ⟨Nat.le_of_lt (small1000 hl), h⟩
theorem r_newL {xs : List V} (hl : xs.length ≤ 1000) (h : ∀ p, H p = none → Q (.ref p) (upd H p (.lst xs))) : newL Q xs H := ⟨Nat.le_of_lt (small1000 hl), h⟩
theorem r_nil (q : RA [] H) : tNil σ H RA := q
theorem r_cons (h : te σ H fun x H1 => ts σ H1 fun xs H2 => RA (x :: xs) H2) : tCons te ts σ H RA := h
theorem r_cb {f : List V → Hp → VK → Prop} (h : ts σ H fun vs H1 => f vs H1 Q) : tCB f ts σ H Q := h
theorem r_call {sp : Sp} {E : L2.St → XK} (h : ts σ H fun vs H1 => sp vs H1 Q (E σ)) : tCallS sp E ts σ H Q := h
theorem r_ck {sp : Sp} {E : L2.St → XK} {gV : List V → List V → List V} {tk : TA} (h : ts σ H fun vs H1 => tk σ H1 fun zs H2 => sp (gV vs zs) H2 Q (E σ)) : tCK sp gV E ts tk σ H Q := h
theorem r_abs {a : Int} (q : Q (.int (if a < 0 then -a else a)) H) : rAbs [.int a] H Q := ⟨a, rfl, q⟩
theorem r_int {a : Int} (q : Q (.int a) H) : rInt [.int a] H Q := .inl ⟨a, rfl, q⟩
theorem r_intb (q : Q (.int (if b then 1 else 0)) H) : rInt [.bl b] H Q := .inr ⟨b, rfl, q⟩
theorem r_len {a : Addr} {xs : List V} (hs : SqL K H a xs ∨ SqT K H a xs) (q : Q (.int xs.length) H) : rLen K [.ref a] H Q := ⟨a, xs, rfl, hs, q⟩
theorem r_dget {td ty : TE} (h : td σ H fun x H1 => ty σ H1 fun y H2 => gK Q x y H2) : tDGet td ty σ H Q := h
theorem r_dput {td ty tv : TE} (h : tv σ H fun v H1 => td σ H1 fun x H2 => ty σ H2 fun y H3 => pK v (fun H4 => D.nx σ H4) x y H3) : sDPut td ty tv D σ H := h
theorem r_gName (h : RS (σ.set i (some v)) H) : gName i v σ H RS := h
theorem r_bm {T : String} {f : V → List V → Hp → VK → Prop} (h : te σ H (bmK K T f σ ts Q)) : tBM K T f te ts σ H Q := h
theorem r_bm0 {T : String} {f : V → List V → Hp → VK → Prop} (h : te σ H (bmK K T f σ tNil Q)) : tBM0 K T f te σ H Q := h
theorem r_sl {f : V → Option Int → Option Int → Hp → VK → Prop} {tl th : TO} (h : te σ H fun x H1 => tl σ H1 fun l H2 => th σ H2 fun u H3 => f x l u H3 Q) : tSl f te tl th σ H Q := h
theorem r_none {RO : Option Int → Hp → Prop} (h : RO none H) : tNoPart σ H RO := h
theorem r_some {RO : Option Int → Hp → Prop} (h : te σ H (iK RO)) : tPart te σ H RO := h
theorem r_someI {RO : Option Int → Hp → Prop} {a : Int} (h : RO (some a) H) : iK RO (.int a) H := ⟨a, rfl, h⟩
theorem r_aug {ti : TIp} (h : σ[i]? = some (some x)) (q : te σ H fun y H1 => ti x y H1 fun z H2 => D.nx (σ.set i (some z)) H2) : tAug i te ti D σ H := ⟨x, h, q⟩
theorem r_slL {a : Addr} {xs : List V} {lo hi : Option Int} (hs : SqL K H a xs) (h : ∀ p, H p = none → Q (.ref p) (upd H p (.lst (cutV xs lo hi)))) : rSlL K (.ref a) lo hi H Q := ⟨a, xs, rfl, hs, h⟩
theorem r_ixL {a : Addr} {xs : List V} {m : Int} (hs : SqL K H a xs) (he : atI xs m = some v) (q : Q v H) : rIxL K (.ref a) (.int m) H Q := ⟨a, xs, m, v, rfl, rfl, hs, he, q⟩
theorem r_ixT {a : Addr} {xs : List V} {m : Int} (hs : SqT K H a xs) (he : atI xs m = some v) (q : Q v H) : rIxT K (.ref a) (.int m) H Q := ⟨a, xs, m, v, rfl, rfl, hs, he, q⟩
end
end VB

/-! VB4: the deck of draws, and what stands beside it -/
namespace VB
open PySem PySem.Spec PyProof.Rows L2
/-! ### the heap without the deck's own objects -/
def hid (d l : Addr) (H : Hp) : Hp := fun a => if a = d ∨ a = l then none else H a
section
variable {d l a : Addr} {H H' H1 : Hp} {o : HO} {K : PySem.W.Frag} {xs : List V}
theorem hid_get (h1 : a ≠ d) (h2 : a ≠ l) : hid d l H a = H a := if_neg fun z => z.elim h1 h2
theorem hid_d : hid d l H d = none := if_pos (.inl rfl)
theorem hid_l : hid d l H l = none := if_pos (.inr rfl)
theorem hid_none (h : H a = none) : hid d l H a = none := by
  unfold hid
  split
  · rfl
  · exact h
theorem hid_some (h : hid d l H a = some o) : a ≠ d ∧ a ≠ l ∧ H a = some o := by
  unfold hid at h
  split at h
  · cases h
  · rename_i z
    exact ⟨fun e => z (.inl e), fun e => z (.inr e), h⟩
theorem hid_sub : Same (hid d l H) H := fun _ _ h => (hid_some h).2.2
theorem same_hid (h : Same H H') : Same (hid d l H) (hid d l H') := fun b o e => by
  obtain ⟨h1, h2, h3⟩ := hid_some e
  rw [hid_get h1 h2]
  exact h b o h3
theorem hid_upd (h1 : a ≠ d) (h2 : a ≠ l) : hid d l (upd H a o) = upd (hid d l H) a o := by
  funext b
  by_cases e : b = a
  · subst e
    rw [hid_get h1 h2, upd_same, upd_same]
  · rw [upd_ne e]
    unfold hid
    rw [upd_ne e]
theorem hid_updd : hid d l (upd H d o) = hid d l H := by
  funext b
  unfold hid
  by_cases e : b = d
  · rw [if_pos (.inl e), if_pos (.inl e)]
  · rw [upd_ne e]
theorem hid_updl : hid d l (upd H l o) = hid d l H := by
  funext b
  unfold hid
  by_cases e : b = l
  · rw [if_pos (.inr e), if_pos (.inr e)]
  · rw [upd_ne e]
theorem same_new (h : H a = none) : Same H (upd H a o) := fun b x e => by
  rw [upd_ne (ne_of_none e h)]
  exact e
theorem seqT_same (e : Same H H') (h : SqT K H a xs) : SqT K H' a xs := by
  rcases h with (h | ⟨ob, h⟩) | h
  · exact .inl (.inl (e _ _ h))
  · exact .inl (.inr ⟨ob, e _ _ h⟩)
  · exact .inr h
theorem seqL_same (e : Same H H') (h : SqL K H a xs) : SqL K H' a xs := e.seq h
mutual
theorem dp_same (e : Same H H') : ∀ (x : PyData) (v : V), Dp K H v x → Dp K H' v x
  | .none, _, h => by cases h; exact .non
  | .bool _, _, h => by cases h; exact .bl _
  | .int _, _, h => by cases h; exact .int _
  | .str _, _, h => by cases h; exact .str _
  | .list ds, _, h => by
    cases h with
    | lst hs ha => exact .lst (seqL_same e hs) (dpa_same e ds _ ha)
  | .tuple ds, _, h => by
    cases h with
    | tup hs ha => exact .tup (seqT_same e hs) (dpa_same e ds _ ha)
  | .dict _, _, h => by cases h
theorem dpa_same (e : Same H H') : ∀ (ds : List PyData) (vs : List V), DpAll K H vs ds → DpAll K H' vs ds
  | [], _, h => by cases h; exact .nil
  | x :: ds, _, h => by
    cases h with
    | cons h1 h2 => exact .cons (dp_same e x _ h1) (dpa_same e ds _ h2)
end
theorem Dp.up (e : Same H H') {x : PyData} {v : V} (h : Dp K H v x) : Dp K H' v x := dp_same e x v h
theorem DpAll.up (e : Same H H') {ds : List PyData} {vs : List V} (h : DpAll K H vs ds) : DpAll K H' vs ds := dpa_same e ds vs h
end
/-! ### the deck -/
abbrev kG : Key := .inr "great"
abbrev kS : Key := .inr "stirred"
abbrev kT : Key := .inr "turn"
theorem kGS : ¬ kG = kS := by decide +kernel
theorem kGT : ¬ kG = kT := by decide +kernel
theorem kST : ¬ kS = kT := by decide +kernel
structure DeckOk (H : Hp) (d l : Addr) : Prop where
  dict : ∃ (kvs : List (Key × V)) (st tn : Int), H d = some (.dK kvs) ∧ kvs.length ≤ 100 ∧ valV kvs kG = some (.ref l) ∧ valV kvs kS = some (.int st) ∧ valV kvs kT = some (.int tn) ∧ 0 ≤ st
  list : ∃ ns : List Int, H l = some (.lst (ns.map V.int)) ∧ (∀ n ∈ ns, 0 ≤ n) ∧ ns.length ≤ 100
theorem DeckOk.up {H H' : Hp} {d l : Addr} (e : Same H H') (h : DeckOk H d l) : DeckOk H' d l := by
  obtain ⟨⟨kvs, st, tn, h1, h2⟩, ⟨ns, h3, h4⟩⟩ := h
  exact ⟨⟨kvs, st, tn, e _ _ h1, h2⟩, ⟨ns, e _ _ h3, h4⟩⟩
theorem DeckOk.ne {H : Hp} {d l p : Addr} (h : DeckOk H d l) (hp : H p = none) : p ≠ d ∧ p ≠ l := by
  obtain ⟨⟨kvs, st, tn, h1, _⟩, ⟨ns, h3, _⟩⟩ := h
  exact ⟨(ne_of_none h1 hp).symm, (ne_of_none h3 hp).symm⟩
theorem DeckOk.upo {H : Hp} {d l p : Addr} {o : HO} (h : DeckOk H d l) (h1 : p ≠ d) (h2 : p ≠ l) : DeckOk (upd H p o) d l := by
  obtain ⟨⟨kvs, st, tn, g1, g2⟩, ⟨ns, g3, g4⟩⟩ := h
  exact ⟨⟨kvs, st, tn, by rw [upd_ne h1.symm]; exact g1, g2⟩, ⟨ns, by rw [upd_ne h2.symm]; exact g3, g4⟩⟩
theorem DeckOk.dl {H : Hp} {d l : Addr} (h : DeckOk H d l) : d ≠ l := by
  obtain ⟨⟨kvs, st, tn, h1, _⟩, ⟨ns, h3, _⟩⟩ := h
  exact ne_of h1 h3 (by intro z; cases z)
/-- the deck has gone on; all else stands -/
structure Adv (d l : Addr) (H H' : Hp) : Prop where
  ok : DeckOk H' d l
  st : Same (hid d l H) (hid d l H')
theorem Adv.refl {d l : Addr} {H : Hp} (h : DeckOk H d l) : Adv d l H H := ⟨h, Same.refl _⟩
theorem Adv.trans {d l : Addr} {H H1 H2 : Hp} (a : Adv d l H H1) (b : Adv d l H1 H2) : Adv d l H H2 := ⟨b.ok, a.st.trans b.st⟩
theorem Adv.same {d l : Addr} {H H1 : Hp} (h : DeckOk H d l) (e : Same H H1) : Adv d l H H1 := ⟨h.up e, same_hid e⟩
theorem Adv.new {d l p : Addr} {H : Hp} {o : HO} (h : DeckOk H d l) (hp : H p = none) : Adv d l H (upd H p o) := .same h (same_new hp)
theorem Adv.mut {d l p : Addr} {H H1 : Hp} {o : HO} (a : Adv d l H H1) (h : DeckOk H d l) (hp : H p = none) : Adv d l H (upd H1 p o) := by
  obtain ⟨h1, h2⟩ := h.ne hp
  refine ⟨?_, ?_⟩
  · exact a.ok.upo h1 h2
  · rw [hid_upd h1 h2]
    intro b x e
    rw [upd_ne (ne_of_none e (hid_none hp))]
    exact a.st b x e
/-- promise: a draw below m -/
def spDraw : Sp := fun vs H Q _ => ∃ (d l : Addr) (m : Int), vs = [.ref d, .int m] ∧ DeckOk H d l ∧ m.natAbs.log2 < 9000 ∧
  ∀ r H', Adv d l H H' → 0 ≤ r → (r < m ∨ r = 0) → Q (.int r) H'
/-- promise: one of the items -/
def spPick (K : PySem.W.Frag) : Sp := fun vs H Q _ => ∃ (d l q : Addr) (xs : List V), vs = [.ref d, .ref q] ∧ DeckOk H d l ∧ SqL K (hid d l H) q xs ∧ 0 < xs.length ∧ xs.length ≤ 1000 ∧
  ∀ v H', Adv d l H H' → v ∈ xs → Q v H'
/-- promise: the deck of a script -/
def spDeck (K : PySem.W.Frag) : Sp := fun vs H Q _ => ∃ (a : Addr) (ns : List Int), vs = [.ref a] ∧ SqL K H a (ns.map V.int) ∧ ns.length ≤ 63 ∧
  ∀ d l H', H d = none → H l = none → Same H H' → DeckOk H' d l → Q (.ref d) H'
theorem pk_deck {K : PySem.W.Frag} {vs : List V} {H : Hp} {Q : VK} {E : XK} (h : spDraw vs H Q E) : vs.length = 2 := by
  obtain ⟨d, l, m, rfl, _⟩ := h
  rfl
theorem log2_small {m : Int} (h : m.natAbs < 2 ^ 100) : m.natAbs.log2 < 9000 := by
  by_cases z : m.natAbs = 0
  · rw [z]; decide
  · have := (Nat.log2_lt z).mpr h
    omega
theorem put_len {kvs : List (Key × V)} {k : Key} {v x : V} (h : valV kvs k = some x) : (putK kvs k v).length = kvs.length := by
  unfold putK
  rw [valV_any, h]
  simp
/-- the built-in names that no module here takes -/
structure Blt (mg : Str → Option Value) : Prop where
  abs : mg "abs" = none
  int : mg "int" = none
  len : mg "len" = none
  range : mg "range" = none
  repr : mg "repr" = none
  isinstance : mg "isinstance" = none
  tuple : mg "tuple" = none
  list : mg "list" = none
  str : mg "str" = none
  sum : mg "sum" = none
  all : mg "all" = none
  any : mg "any" = none
  zip : mg "zip" = none
  enumerate : mg "enumerate" = none
  sorted : mg "sorted" = none
  reversed : mg "reversed" = none
  bool : mg "bool" = none
  dict : mg "dict" = none
  max : mg "max" = none
  min : mg "min" = none
  ord : mg "ord" = none
  chr : mg "chr" = none
  divmod : mg "divmod" = none
  set : mg "set" = none
theorem blt_mk {K : PySem.W.Frag} {h : Heap} {mg : Str → Option Value} (X : K.In h) (G : h.Ns mainGlobals mg)
    (z1 : PySem.W.nsIn K mainGlobals "abs" = some none) (z2 : PySem.W.nsIn K mainGlobals "int" = some none) (z3 : PySem.W.nsIn K mainGlobals "len" = some none) (z4 : PySem.W.nsIn K mainGlobals "range" = some none) (z5 : PySem.W.nsIn K mainGlobals "repr" = some none) (z6 : PySem.W.nsIn K mainGlobals "isinstance" = some none) (z7 : PySem.W.nsIn K mainGlobals "tuple" = some none) (z8 : PySem.W.nsIn K mainGlobals "list" = some none) (z9 : PySem.W.nsIn K mainGlobals "str" = some none) (z10 : PySem.W.nsIn K mainGlobals "sum" = some none) (z11 : PySem.W.nsIn K mainGlobals "all" = some none) (z12 : PySem.W.nsIn K mainGlobals "any" = some none) (z13 : PySem.W.nsIn K mainGlobals "zip" = some none) (z14 : PySem.W.nsIn K mainGlobals "enumerate" = some none) (z15 : PySem.W.nsIn K mainGlobals "sorted" = some none) (z16 : PySem.W.nsIn K mainGlobals "reversed" = some none) (z17 : PySem.W.nsIn K mainGlobals "bool" = some none) (z18 : PySem.W.nsIn K mainGlobals "dict" = some none) (z19 : PySem.W.nsIn K mainGlobals "max" = some none) (z20 : PySem.W.nsIn K mainGlobals "min" = some none) (z21 : PySem.W.nsIn K mainGlobals "ord" = some none) (z22 : PySem.W.nsIn K mainGlobals "chr" = some none) (z23 : PySem.W.nsIn K mainGlobals "divmod" = some none) (z24 : PySem.W.nsIn K mainGlobals "set" = some none) : Blt mg :=
  ⟨PySem.W.mg_none_of X G z1, PySem.W.mg_none_of X G z2, PySem.W.mg_none_of X G z3, PySem.W.mg_none_of X G z4, PySem.W.mg_none_of X G z5, PySem.W.mg_none_of X G z6, PySem.W.mg_none_of X G z7, PySem.W.mg_none_of X G z8, PySem.W.mg_none_of X G z9, PySem.W.mg_none_of X G z10, PySem.W.mg_none_of X G z11, PySem.W.mg_none_of X G z12, PySem.W.mg_none_of X G z13, PySem.W.mg_none_of X G z14, PySem.W.mg_none_of X G z15, PySem.W.mg_none_of X G z16, PySem.W.mg_none_of X G z17, PySem.W.mg_none_of X G z18, PySem.W.mg_none_of X G z19, PySem.W.mg_none_of X G z20, PySem.W.mg_none_of X G z21, PySem.W.mg_none_of X G z22, PySem.W.mg_none_of X G z23, PySem.W.mg_none_of X G z24⟩
/-- an own exception class, as the top has made it -/
structure ErrC (K : PySem.W.Frag) (mg : Str → Option Value) (x : Str) (C : Addr) : Prop where
  ex : PySem.W.excIn K C [.type "ValueError", .type "Exception", .type "BaseException", .type "object"] "ValueError.__new__" = true
  gl : mg x = some (.ref C)
  kp : PySem.W.keepIn K (.ref C) = true
  sb : PySem.W.subIn K (.ref C) (.type "BaseException") = some true
  ty : PySem.W.typeIn K (.ref C) = some (.type "type")
end VB

/-! VB5: readings of the deck's pieces -/
namespace VB
open PySem PySem.Spec PyProof.Rows L2
section
variable {d l p : Addr} {H : Hp} {K : PySem.W.Frag} {kvs : List (Key × V)} {k : Key} {v : V} {Q : VK} {ns : List Int} {xs : List V}
theorem r_dgetK (hd : H d = some (.dK kvs)) (hv : valV kvs k = some v) (q : Q v H) : gK Q (.ref d) (kV k) H :=
  ⟨d, v, rfl, hv ▸ DGet.k (k := k) hd, q⟩
theorem r_dputK {S : Hp → Prop} (hd : H d = some (.dK kvs)) (hl : kvs.length ≤ 1000) (q : S (upd H d (.dK (putK kvs k v)))) : pK v S (.ref d) (kV k) H :=
  ⟨d, _, rfl, DPut.k (k := k) hd (small1000 hl), q⟩
theorem ints_can : ∀ ns : List Int, PyData.canLayAll0 (ns.map PyData.int) = true
  | [] => rfl
  | n :: r => by
    show ((PyData.int n).canLay0 && PyData.canLayAll0 (r.map PyData.int)) = true
    rw [ints_can r]
    rfl
theorem ints_depth : ∀ ns : List Int, PyData.depthAll (ns.map PyData.int) = 0
  | [] => rfl
  | n :: r => by
    show max (PyData.depth (.int n)) (PyData.depthAll (r.map PyData.int)) = 0
    rw [ints_depth r]
    rfl
theorem ints_shaped (ns : List Int) : SeqAt.shaped (.list (ns.map PyData.int)) = true := by
  show (PyData.canLayAll0 (ns.map PyData.int) && decide (PyData.depthAll (ns.map PyData.int) + 1 ≤ 64)) = true
  rw [ints_can, ints_depth]
  rfl
theorem dpa_ints : ∀ ns : List Int, DpAll K H (ns.map V.int) (ns.map PyData.int)
  | [] => .nil
  | _ :: r => .cons (.int _) (dpa_ints r)
theorem eqv_nil : ∀ ns : List Int, PyData.eqv (.list (ns.map PyData.int)) (.list []) = ns.isEmpty
  | [] => rfl
  | _ :: _ => rfl
theorem r_neNil (hl : SqL K H l (ns.map V.int)) (hp : SqL K H p []) (q : Q (.bl (!ns.isEmpty)) H) : rNeD K (.ref l) (.ref p) H Q :=
  ⟨.list (ns.map PyData.int), .list [], .lst hl (dpa_ints ns), .lst hp .nil, ints_shaped ns, ints_shaped [], by rw [eqv_nil]; exact q⟩
theorem r_pop {σ : L2.St} {y : V} (hl : H l = some (.lst xs)) (hy : xs[xs.length - 1]? = some y) (q : Q y (upd H l (.lst xs.dropLast))) : bmK K "list" rPop σ tNil Q (.ref l) H :=
  ⟨.inl ⟨rfl, _, SqL.of hl⟩, l, xs, y, rfl, rfl, hl, hy, q⟩
theorem r_tyL {σ : L2.St} {ts : TA} {f : V → List V → Hp → VK → Prop} (hl : H l = some (.lst xs)) (q : ts σ H fun xs H2 => f (.ref l) xs H2 Q) : bmK K "list" f σ ts Q (.ref l) H := ⟨.inl ⟨rfl, _, SqL.of hl⟩, q⟩
theorem r_app {y : V} (hl : H l = some (.lst xs)) (hz : xs.length ≤ 1000) (q : Q .non (upd H l (.lst (xs ++ [y])))) : rAppend (.ref l) [y] H Q := ⟨l, xs, y, rfl, rfl, hl, small1000 hz, q⟩
end
theorem last_int {ns : List Int} (h : ns ≠ []) : ∃ (r : List Int) (c : Int), ns = r ++ [c] ∧ (ns.map V.int)[(ns.map V.int).length - 1]? = some (.int c) ∧ (ns.map V.int).dropLast = r.map V.int := by
  refine ⟨ns.dropLast, ns.getLast h, (List.dropLast_concat_getLast h).symm, ?_, ?_⟩
  · rw [List.getElem?_map, List.length_map, ← List.getLast?_eq_getElem?, List.getLast?_eq_some_getLast h]
    rfl
  · rw [← List.map_dropLast]
theorem fdiv_nn {a b : Int} (h1 : 0 ≤ a) (h2 : 0 ≤ b) : 0 ≤ a.fdiv b := by
  rw [Int.fdiv_eq_ediv_of_nonneg a h2]
  exact Int.ediv_nonneg h1 h2
theorem fmod_lt {a b : Int} (h2 : 2 ≤ b) : 0 ≤ a.fmod b ∧ a.fmod b < b := by
  rw [Int.fmod_eq_emod_of_nonneg a (by omega)]
  exact ⟨Int.emod_nonneg a (by omega), Int.emod_lt_of_pos a (by omega)⟩
theorem mul_small {a b : Int} (h1 : 0 ≤ a) (h2 : a < 18446744073709551616) : IntMulOk a b := CMul.ok (.inl ⟨by omega, by omega⟩)
theorem mul_smallR {a b : Int} (h1 : 0 ≤ b) (h2 : b < 18446744073709551616) : IntMulOk a b := CMul.ok (.inr ⟨by omega, by omega⟩)
end VB

/-! VB6: loops and comprehensions, by named wishes -/
namespace VB
open PySem PySem.Spec PyProof.Rows L2
/-! ### what is walked -/
def lK (K : PySem.W.Frag) (R : It → Hp → Prop) : VK := fun x H => ∃ a, x = .ref a ∧ (∃ xs, SqL K H a xs) ∧ R (Itl K a) H
def tK (K : PySem.W.Frag) (R : It → Hp → Prop) : VK := fun x H => ∃ a, x = .ref a ∧ (∃ xs, SqT K H a xs) ∧ R (Itt K a) H
def gK1 (R : It → Hp → Prop) : List V → Hp → Prop := fun vs H => ∃ j : Int, vs = [.int j] ∧ -(2 ^ 62) ≤ j ∧ j < 2 ^ 62 ∧ R (Itr 0 j.toNat) H
def gK2 (R : It → Hp → Prop) : List V → Hp → Prop := fun vs H => ∃ i j : Int, vs = [.int i, .int j] ∧ (-(2 ^ 62) ≤ i ∧ i < 2 ^ 62 ∧ -(2 ^ 62) ≤ j ∧ j < 2 ^ 62) ∧ R (Itr i (j - i).toNat) H
def forK (g : TG) (tb : TS) (D : Ends) (σ : L2.St) : It → Hp → Prop := fun J H1 => ∃ W : Nat → Nat → L2.St → Hp → Prop, (∃ m, W 0 m σ H1) ∧ ∀ i m σ H, W i m σ H →
  (J.stop i H ∧ D.nx σ H) ∨ (J.go i H ∧ ∃ N : L2.St → Hp → Prop, (∀ σ' H', N σ' H' → ∃ m', m' < m ∧ W (i + 1) m' σ' H') ∧ ∀ x H', J.yld i H x H' → g x σ H' fun σ2 H2 => tb { D with nx := N, ct := N, bk := D.nx } σ2 H2)
/-- a comprehension's kept item goes to the list at D -/
def apK (D : Addr) (S : Hp → Prop) : VK := fun y H4 => ∃ acc, H4 D = some (.lst acc) ∧ acc.length < sizeLine ∧ S (upd H4 D (.lst (acc ++ [y])))
def cK (te : TE) (σ2 : L2.St) (D : Addr) (S : Hp → Prop) : Bool → Hp → Prop := fun b H3 => if b = true then te σ2 H3 (apK D S) else S H3
def wK (vs : List Nat) (σ : L2.St) (tt : TT) (te : TE) (D : Addr) (S : Hp → Prop) : L2.St → Hp → Prop := fun σ2 H2 => wipe σ2 vs = wipe σ vs ∧ tt σ2 H2 (cK te σ2 D S)
def lcK (g : TG) (tt : TT) (te : TE) (vs : List Nat) (σ : L2.St) (Q : VK) : It → Hp → Prop := fun J H1 => ∀ D, H1 D = none → ∃ W : Nat → Nat → Hp → Prop, (∃ m, W 0 m (upd H1 D (.lst []))) ∧ ∀ i m H, W i m H →
  (J.stop i H ∧ Q (.ref D) H) ∨ (J.go i H ∧ ∃ Nx : Hp → Prop, (∀ H', Nx H' → ∃ m', m' < m ∧ W (i + 1) m' H') ∧ ∀ x H', J.yld i H x H' → g x (wipe σ vs) H' (wK vs σ tt te D Nx))
section
variable {σ : L2.St} {H : Hp} {D : Ends} {i : Nat} {v x y : V} {tl te : TE} {t u tb : TS} {tt : TT} {ts : TA} {Q : VK} {R : It → Hp → Prop} {g : TG} {K : PySem.W.Frag} {a : Addr} {xs : List V} {vs : List Nat} {wi : TI} {S : Hp → Prop} {E : Addr}
theorem r_iL (h : tl σ H (lK K R)) : iList K tl σ H R := h
theorem r_iT (h : tl σ H (tK K R)) : iTup K tl σ H R := h
theorem r_lk (hs : SqL K H a xs) (h : R (Itl K a) H) : lK K R (.ref a) H := ⟨a, rfl, ⟨_, hs⟩, h⟩
theorem r_tk (hs : SqT K H a xs) (h : R (Itt K a) H) : tK K R (.ref a) H := ⟨a, rfl, ⟨_, hs⟩, h⟩
theorem r_rng1 (h : ts σ H (gK1 R)) : iRng1 ts σ H R := h
theorem r_rng2 (h : ts σ H (gK2 R)) : iRng2 ts σ H R := h
theorem r_rk {j : Int} (h1 : -1000000 ≤ j) (h2 : j ≤ 1000000) (h : R (Itr 0 j.toNat) H) : gK1 R [.int j] H := ⟨j, rfl, by omega, by omega, h⟩
theorem r_rk2 {i j : Int} (h1 : -1000000 ≤ i ∧ i ≤ 1000000) (h2 : -1000000 ≤ j ∧ j ≤ 1000000) (h : R (Itr i (j - i).toNat) H) : gK2 R [.int i, .int j] H := ⟨i, j, rfl, by omega, h⟩
theorem r_for (h : wi σ H (forK g tb D σ)) : tFor wi g tb D σ H := h
theorem r_forL (Pv : Nat → L2.St → Hp → Prop) (h0 : Pv 0 σ H) (hl : ∀ i σ H, i ≤ xs.length → Pv i σ H → SqL K H a xs)
    (hs : ∀ i x σ H, xs[i]? = some x → Pv i σ H → g x σ H fun σ2 H2 => tb { D with nx := Pv (i + 1), ct := Pv (i + 1), bk := D.nx } σ2 H2) (hd : ∀ σ H, Pv xs.length σ H → D.nx σ H) :
    forK g tb D σ (Itl K a) H := for_list Pv h0 hl hs hd
theorem r_forT (Pv : Nat → L2.St → Hp → Prop) (h0 : Pv 0 σ H) (hl : ∀ i σ H, i ≤ xs.length → Pv i σ H → SqT K H a xs)
    (hs : ∀ i x σ H, xs[i]? = some x → Pv i σ H → g x σ H fun σ2 H2 => tb { D with nx := Pv (i + 1), ct := Pv (i + 1), bk := D.nx } σ2 H2) (hd : ∀ σ H, Pv xs.length σ H → D.nx σ H) :
    forK g tb D σ (Itt K a) H := for_tup Pv h0 hl hs hd
theorem r_forR {lo : Int} {n : Nat} (Pv : Nat → L2.St → Hp → Prop) (h0 : Pv 0 σ H)
    (hs : ∀ i σ H, i < n → Pv i σ H → g (.int (lo + i)) σ H fun σ2 H2 => tb { D with nx := Pv (i + 1), ct := Pv (i + 1), bk := D.nx } σ2 H2) (hd : ∀ σ H, Pv n σ H → D.nx σ H) :
    forK g tb D σ (Itr lo n) H := for_range Pv h0 hs hd
theorem r_lc (h : wi σ H (lcK g tt te vs σ Q)) : tLc wi g tt te vs σ H Q := h
theorem r_ap {acc : List V} (h : H E = some (.lst acc)) (hl : acc.length ≤ 1000) (q : S (upd H E (.lst (acc ++ [y])))) : apK E S y H := ⟨acc, h, small1000 hl, q⟩
theorem r_wk {σ2 : L2.St} (e : wipe σ2 vs = wipe σ vs) (h : tt σ2 H (cK te σ2 E S)) : wK vs σ tt te E S σ2 H := ⟨e, h⟩
theorem r_ck1 {σ2 : L2.St} (h : te σ2 H (apK E S)) : cK te σ2 E S true H := h
theorem r_ck0 {σ2 : L2.St} (h : S H) : cK te σ2 E S false H := h
theorem r_yesT {RR : Bool → Hp → Prop} (h : RR true H) : tYes σ H RR := h
/-- over a list: by an invariant of the turn and the heap, the new list's address given -/
theorem r_lcL (Pv : Addr → Nat → Hp → Prop) (h0 : ∀ E, H E = none → Pv E 0 (upd H E (.lst []))) (hl : ∀ E i H', H E = none → i ≤ xs.length → Pv E i H' → SqL K H' a xs)
    (hs : ∀ E i x H', H E = none → xs[i]? = some x → Pv E i H' → g x (wipe σ vs) H' (wK vs σ tt te E (Pv E (i + 1)))) (hd : ∀ E H', H E = none → Pv E xs.length H' → Q (.ref E) H') :
    lcK g tt te vs σ Q (Itl K a) H := fun E hE => lc_list (xs := xs) (Pv E) (h0 E hE) (fun i H' hi => hl E i H' hE hi) (fun i x H' hx p => hs E i x H' hE hx p) (fun H' p => hd E H' hE p)
theorem r_lcT (Pv : Addr → Nat → Hp → Prop) (h0 : ∀ E, H E = none → Pv E 0 (upd H E (.lst []))) (hl : ∀ E i H', H E = none → i ≤ xs.length → Pv E i H' → SqT K H' a xs)
    (hs : ∀ E i x H', H E = none → xs[i]? = some x → Pv E i H' → g x (wipe σ vs) H' (wK vs σ tt te E (Pv E (i + 1)))) (hd : ∀ E H', H E = none → Pv E xs.length H' → Q (.ref E) H') :
    lcK g tt te vs σ Q (Itt K a) H := fun E hE => lc_tup (xs := xs) (Pv E) (h0 E hE) (fun i H' hi => hl E i H' hE hi) (fun i x H' hx p => hs E i x H' hE hx p) (fun H' p => hd E H' hE p)
theorem r_lcR {lo : Int} {n : Nat} (Pv : Addr → Nat → Hp → Prop) (h0 : ∀ E, H E = none → Pv E 0 (upd H E (.lst [])))
    (hs : ∀ E i H', H E = none → i < n → Pv E i H' → g (.int (lo + i)) (wipe σ vs) H' (wK vs σ tt te E (Pv E (i + 1)))) (hd : ∀ E H', H E = none → Pv E n H' → Q (.ref E) H') :
    lcK g tt te vs σ Q (Itr lo n) H := fun E hE => lc_range (lo := lo) (n := n) (Pv E) (h0 E hE) (fun i H' hi p => hs E i H' hE hi p) (fun H' p => hd E H' hE p)
end
theorem wipe_set {σ : L2.St} {j : Nat} {v : Option V} : wipe ((wipe σ [j]).set j v) [j] = wipe σ [j] := by
  show ((σ.set j none).set j v).set j none = σ.set j none
  rw [List.set_set, List.set_set]
theorem filt_map {xs : List V} {i : Nat} {x : V} (p : V → Bool) (f : V → V) (h : xs[i]? = some x) : ((xs.take (i + 1)).filter p).map f = if p x = true then ((xs.take i).filter p).map f ++ [f x] else ((xs.take i).filter p).map f := by
  rw [List.take_add_one, h, Option.toList_some, List.filter_append, List.map_append]
  by_cases e : p x = true
  · rw [if_pos e, List.filter_cons_of_pos e]; rfl
  · rw [if_neg e, List.filter_cons_of_neg e]; exact List.append_nil _
/-- [f(x) for x in xs if p(x)], nothing else is made on the way -/
theorem r_lcFM {σ : L2.St} {H : Hp} {j : Nat} {tt : TT} {te : TE} {Q : VK} {K : PySem.W.Frag} {a : Addr} {xs : List V} (p : V → Bool) (f : V → V) (hx : SqL K H a xs) (hn : xs.length ≤ 1000)
    (ht : ∀ x ∈ xs, ∀ (H' : Hp) (S : Bool → Hp → Prop), S (p x) H' → tt ((wipe σ [j]).set j (some x)) H' S)
    (he : ∀ x ∈ xs, p x = true → ∀ (H' : Hp) (S : VK), S (f x) H' → te ((wipe σ [j]).set j (some x)) H' S)
    (hd : ∀ E, H E = none → Q (.ref E) (upd H E (.lst ((xs.filter p).map f)))) : lcK (gName j) tt te [j] σ Q (Itl K a) H := by
  refine r_lcL (xs := xs) (fun E i H' => H' = upd H E (.lst (((xs.take i).filter p).map f))) (fun E _ => rfl) (fun E i H' hE _ e => ?_) (fun E i x H' hE hxi e => ?_) (fun E H' hE e => ?_)
  · rw [e]; exact seqL_same (same_new hE) hx
  · have hm := List.mem_of_getElem? hxi
    refine r_gName (r_wk wipe_set (ht x hm _ _ ?_))
    have fm := filt_map p f hxi
    cases c : p x with
    | true =>
      rw [c, if_pos rfl] at fm
      refine r_ck1 (he x hm c _ _ (r_ap (acc := ((xs.take i).filter p).map f) (by rw [e]; exact upd_same) ?_ ?_))
      · rw [List.length_map]
        exact Nat.le_trans (List.length_filter_le _ _) (Nat.le_trans (by rw [List.length_take]; exact Nat.min_le_right _ _) hn)
      · rw [e, upd_upd, fm]
    | false =>
      rw [c, if_neg Bool.false_ne_true] at fm
      refine r_ck0 ?_
      rw [e, fm]
  · rw [e, List.take_length]
    exact hd E hE
theorem r_lcM {σ : L2.St} {H : Hp} {j : Nat} {te : TE} {Q : VK} {K : PySem.W.Frag} {a : Addr} {xs : List V} (f : V → V) (hx : SqL K H a xs) (hn : xs.length ≤ 1000)
    (he : ∀ x ∈ xs, ∀ (H' : Hp) (S : VK), S (f x) H' → te ((wipe σ [j]).set j (some x)) H' S)
    (hd : ∀ E, H E = none → Q (.ref E) (upd H E (.lst (xs.map f)))) : lcK (gName j) tYes te [j] σ Q (Itl K a) H := by
  refine r_lcFM (fun _ => true) f hx hn (fun x _ H' S h => r_yesT h) (fun x hm _ H' S h => he x hm H' S h) fun E hE => ?_
  rw [List.filter_eq_self.mpr fun _ _ => rfl]
  exact hd E hE
/-! ### displays of dicts -/
def dispK (p : Addr) (Q : VK) : List (V × V) → Hp → Prop := fun ps H2 => H2 p = some (.dK []) ∧ ∃ kvs : List (Key × V), ps = kvs.map (fun kv => (kV kv.1, kv.2)) ∧ kvs.length ≤ 15 ∧ Q (.ref p) (upd H2 p (.dK (mergeK [] kvs)))
section
variable {σ : L2.St} {H : Hp} {Q : VK} {tk tv : TE} {trs : List (TE × TE)} {RP : List (V × V) → Hp → Prop} {p : Addr}
theorem r_disp (h : ∀ p, H p = none → tPairs trs σ (upd H p (.dK [])) (dispK p Q)) : tDisp trs σ H Q := h
theorem r_pnil (h : RP [] H) : tPairs [] σ H RP := h
theorem r_pcons (h : tk σ H fun x H1 => tv σ H1 fun y H2 => tPairs trs σ H2 fun ps H3 => RP ((x, y) :: ps) H3) : tPairs ((tk, tv) :: trs) σ H RP := h
theorem r_dispk (kvs : List (Key × V)) (h0 : H p = some (.dK [])) (hl : kvs.length ≤ 15) (q : Q (.ref p) (upd H p (.dK (mergeK [] kvs)))) : dispK p Q (kvs.map fun kv => (kV kv.1, kv.2)) H := ⟨h0, kvs, rfl, hl, q⟩
end

theorem cut_ints (ns : List Int) (n : Nat) : ∃ ms : List Int, cutV (ns.map V.int) none (some (n : Int)) = ms.map V.int ∧ ms.length ≤ n := by
  refine ⟨ns.take n, ?_, by rw [List.length_take]; exact Nat.min_le_left _ _⟩
  unfold cutV
  rw [HT.sIx_none, show HT.sIx (ns.map V.int).length (ns.map V.int).length (some (n : Int)) = min n (ns.map V.int).length from HT.sIx_nat _ _ n]
  rw [List.drop_zero, Nat.sub_zero, List.map_take, List.length_map]
  by_cases h : n ≤ ns.length
  · rw [Nat.min_eq_left h]
  · rw [Nat.min_eq_right (by omega), List.take_of_length_le (by simp), List.take_of_length_le (by simp; omega)]
def cellV (i : Int) : Int := 2 * (if i < 0 then -i else i) + (if decide (i < 0) = true then 1 else 0)
end VB

/-! VB7: sizes, fractions -/
namespace VB
open PySem PySem.Spec PyProof.Rows L2
/-! ### sizes -/
def Bd (k : Nat) (x : Int) : Prop := x.natAbs < 2 ^ k
theorem Bd.mono {j k : Nat} {x : Int} (h : Bd j x) (l : j ≤ k) : Bd k x := Nat.lt_of_lt_of_le h (Nat.pow_le_pow_right (by decide) l)
theorem Bd.mul {j k : Nat} {x y : Int} (h : Bd j x) (l : Bd k y) : Bd (j + k) (x * y) := wide_lt h l
theorem Bd.add {k : Nat} {x y : Int} (h : Bd k x) (l : Bd k y) : Bd (k + 1) (x + y) := by
  have e := Int.natAbs_add_le x y
  have h1 : x.natAbs < 2 ^ k := h
  have h2 : y.natAbs < 2 ^ k := l
  have h3 : 2 ^ (k + 1) = 2 ^ k * 2 := Nat.pow_succ ..
  show (x + y).natAbs < 2 ^ (k + 1)
  omega
theorem Bd.neg {k : Nat} {x : Int} (h : Bd k x) : Bd k (-x) := by
  show (-x).natAbs < 2 ^ k
  rw [Int.natAbs_neg]
  exact h
theorem Bd.log {k n : Nat} {x : Int} (h : Bd k x) (l : k ≤ n) (h0 : 0 < n) : x.natAbs.log2 < n := PySem.Flt.log2_lt_of h0 (h.mono l)
theorem Bd.mulOk {j k : Nat} {x y : Int} (h : Bd j x) (l : Bd k y) (e : j + k ≤ 900000 := by decide) : IntMulOk x y :=
  CMulW.ok (wide_mul (h.mono (Nat.le_succ j)) (l.mono (Nat.le_succ k)) (Nat.succ_pos _) (Nat.succ_pos _) (by omega))
theorem Bd.of_le {k : Nat} {x y : Int} (h : Bd k y) (e : x.natAbs ≤ y.natAbs) : Bd k x := Nat.lt_of_le_of_lt e h
theorem Bd.small {x : Int} (h : x.natAbs < 18446744073709551616) : Bd 64 x := by
  show x.natAbs < 2 ^ 64
  omega
/-! ### a / b in lowest terms, as both texts reckon it -/
def gcdI (a b : Int) : Int := ((Nat.gcd a.natAbs b.natAbs : Nat) : Int)
def comI (a b : Int) : Int := if b < 0 then -gcdI a b else gcdI a b
def lowA (a b : Int) : Int := a.fdiv (comI a b)
def lowB (a b : Int) : Int := b.fdiv (comI a b)
theorem gcdI_pos {a b : Int} (h : b ≠ 0) : 0 < gcdI a b := by
  have : 0 < Nat.gcd a.natAbs b.natAbs := Nat.gcd_pos_of_pos_right _ (by omega)
  show (0 : Int) < ((Nat.gcd a.natAbs b.natAbs : Nat) : Int)
  omega
theorem comI_ne {a b : Int} (h : b ≠ 0) : comI a b ≠ 0 := by
  have := gcdI_pos (a := a) h
  unfold comI
  split <;> omega
theorem comI_abs (a b : Int) : (comI a b).natAbs = Nat.gcd a.natAbs b.natAbs := by
  unfold comI gcdI
  split
  · rw [Int.natAbs_neg, Int.natAbs_natCast]
  · rw [Int.natAbs_natCast]
theorem comI_dvd (a b : Int) : comI a b ∣ a ∧ comI a b ∣ b :=
  ⟨Int.natAbs_dvd_natAbs.mp (by rw [comI_abs]; exact Nat.gcd_dvd_left _ _), Int.natAbs_dvd_natAbs.mp (by rw [comI_abs]; exact Nat.gcd_dvd_right _ _)⟩
theorem comI_le {a b : Int} (h : b ≠ 0) : (comI a b).natAbs ≤ b.natAbs := by
  rw [comI_abs]
  exact Nat.gcd_le_right _ (by omega)
theorem fdiv_exact {x c : Int} (h : c ∣ x) : x.fdiv c * c = x := Int.fdiv_mul_cancel h
theorem fdiv_abs {x c : Int} (h : c ∣ x) (h0 : c ≠ 0) : (x.fdiv c).natAbs ≤ x.natAbs := by
  have e := congrArg Int.natAbs (fdiv_exact h)
  rw [Int.natAbs_mul] at e
  rw [← e]
  exact Nat.le_mul_of_pos_right _ (by omega)
theorem lowA_bd {k : Nat} {a b : Int} (ha : Bd k a) (h : b ≠ 0) : Bd k (lowA a b) := ha.of_le (fdiv_abs (comI_dvd a b).1 (comI_ne h))
theorem lowB_bd {k : Nat} {a b : Int} (hb : Bd k b) (h : b ≠ 0) : Bd k (lowB a b) := hb.of_le (fdiv_abs (comI_dvd a b).2 (comI_ne h))
theorem lowB_pos {a b : Int} (h : b ≠ 0) : 0 < lowB a b := by
  have e := fdiv_exact (comI_dvd a b).2
  have hg := gcdI_pos (a := a) h
  have d0 : lowB a b ≠ 0 := fun z => by
    have e' : lowB a b * comI a b = b := e
    rw [z, Int.zero_mul] at e'
    exact h e'.symm
  have e' : lowB a b * comI a b = b := e
  refine Classical.byContradiction fun n => ?_
  have hn : lowB a b < 0 := by omega
  by_cases hb : b < 0
  · have hc : comI a b < 0 := by unfold comI; rw [if_pos hb]; omega
    have := Int.mul_pos_of_neg_of_neg hn hc
    omega
  · have hc : 0 < comI a b := by unfold comI; rw [if_neg hb]; exact hg
    have := Int.mul_neg_of_neg_of_pos hn hc
    omega
/-- promise: gcd, sign by sign -/
def spGcd : Sp := fun vs H Q _ => ∃ a b : Int, vs = [.int a, .int b] ∧ Q (.int (gcdI a b)) H
/-- promise: a / b, b not 0 -/
def spLow : Sp := fun vs H Q _ => ∃ a b : Int, vs = [.int a, .int b] ∧ b ≠ 0 ∧ Bd 8000 b ∧ ∀ p, H p = none → Q (.ref p) (upd H p (.tup [.int (lowA a b), .int (lowB a b)]))
/-- promise: a / b, or Unfit -/
def spLowest (C : Addr) : Sp := fun vs H Q E => ∃ a b : Int, vs = [.int a, .int b] ∧ Bd 8000 b ∧ (b = 0 → E (.ref C) none H) ∧ (b ≠ 0 → ∀ p, H p = none → Q (.ref p) (upd H p (.tup [.int (lowA a b), .int (lowB a b)])))
/-- a pair of ints at a tuple -/
def FrV (K : PySem.W.Frag) (H : Hp) (v : V) (a b : Int) : Prop := ∃ p, v = .ref p ∧ SqT K H p [.int a, .int b]
theorem FrV.up {K : PySem.W.Frag} {H H' : Hp} {v : V} {a b : Int} (e : Same H H') (h : FrV K H v a b) : FrV K H' v a b := by
  obtain ⟨p, rfl, hs⟩ := h
  exact ⟨p, rfl, seqT_same e hs⟩
theorem FrV.dp {K : PySem.W.Frag} {H : Hp} {v : V} {a b : Int} (h : FrV K H v a b) : Dp K H v (.tuple [.int a, .int b]) := by
  obtain ⟨p, rfl, hs⟩ := h
  exact .tup hs (.cons (.int _) (.cons (.int _) .nil))
/-! ### what repr asks of data -/
mutual
def wt : PyData → Nat
  | .none => 4
  | .bool _ => 5
  | .int _ => 1921
  | .str x => (reprText x).length
  | .list xs => wtAll xs + 3
  | .tuple xs => wtAll xs + 3
  | .dict _ => 0
def wtAll : List PyData → Nat
  | [] => 0
  | x :: xs => wt x + 2 + wtAll xs
end
mutual
theorem shown_wt : ∀ d : PyData, d.showable = true → d.hasDict = false → d.shown.length ≤ wt d
  | .none, _, _ => by simp only [PyData.shown, wt]; decide
  | .bool b, _, _ => by simp only [PyData.shown, wt]; cases b <;> decide
  | .int i, h, _ => by
    simp only [PyData.shown, wt]
    exact PyProof.Rows.int_text_len_1921 (by simpa [PyData.showable] using h)
  | .str x, _, _ => by simp only [PyData.shown, wt]; exact Nat.le_refl _
  | .list xs, h, h' => by
    have z := shownAll_wt xs (by simpa [PyData.showable] using h) (by simpa [PyData.hasDict] using h')
    have y := listText_len_le (PyData.shownAll xs)
    simp only [PyData.shown, wt]
    omega
  | .tuple xs, h, h' => by
    have z := shownAll_wt xs (by simpa [PyData.showable] using h) (by simpa [PyData.hasDict] using h')
    have y := tupleText_len_le (PyData.shownAll xs)
    simp only [PyData.shown, wt]
    omega
  | .dict _, _, h' => by simp [PyData.hasDict] at h'
theorem shownAll_wt : ∀ xs : List PyData, PyData.showableAll xs = true → PyData.hasDictAll xs = false → ((PyData.shownAll xs).map (·.length)).sum + 2 * (PyData.shownAll xs).length ≤ wtAll xs
  | [], _, _ => by simp [PyData.shownAll, wtAll]
  | x :: xs, h, h' => by
    have e : x.showable = true ∧ PyData.showableAll xs = true := by simpa [PyData.showableAll] using h
    have e' : x.hasDict = false ∧ PyData.hasDictAll xs = false := by simpa [PyData.hasDictAll] using h'
    have z1 := shown_wt x e.1 e'.1
    have z2 := shownAll_wt xs e.2 e'.2
    simp only [PyData.shownAll, wtAll, List.map_cons, List.sum_cons, List.length_cons]
    omega
end
/-- data that repr can write -/
structure Fit (d : PyData) : Prop where
  sh : d.showable = true
  wt : wt d ≤ 16000000
  dp : d.depth < 60
theorem r_repr {K : PySem.W.Frag} {v : V} {d : PyData} {H : Hp} {Q : VK} (h : Dp K H v d) (f : Fit d) (q : Q (.str d.shown) H) : rRepr K [v] H Q := by
  refine ⟨v, d, rfl, h, f.sh, ?_, f.dp, q⟩
  have z := shown_wt d f.sh (dp_nodict d v h)
  have e := sizeLine_eq
  have := f.wt
  omega
theorem sh_int {k : Nat} {x : Int} (h : Bd k x) (l : k ≤ 1920 := by decide) : (PyData.int x).showable = true := by
  simp only [PyData.showable]
  exact decide_eq_true (h.log l (by decide))
end VB

/-! VB8: promises of drawn numbers -/
namespace VB
open PySem PySem.Spec PyProof.Rows L2
/-- promise: a number of so many figures -/
def spGreat : Sp := fun vs H Q _ => ∃ (d l : Addr) (n : Int), vs = [.ref d, .int n] ∧ DeckOk H d l ∧ 1 ≤ n ∧ n ≤ 1000 ∧ ∀ r H', Adv d l H H' → 0 < r → r < 10 ^ n.toNat → Q (.int r) H'
/-- promise: some integer -/
def spSomeInt : Sp := fun vs H Q _ => ∃ (d l : Addr), vs = [.ref d] ∧ DeckOk H d l ∧ ∀ r H', Adv d l H H' → Bd 366 r → Q (.int r) H'
/-- promise: some fraction -/
def spSomeFr (K : PySem.W.Frag) : Sp := fun vs H Q _ => ∃ (d l : Addr), vs = [.ref d] ∧ DeckOk H d l ∧ ∀ v a b H', Adv d l H H' → FrV K (hid d l H') v a b → Bd 366 a → Bd 366 b → 0 < b → Q v H'
theorem ten_bd {r : Int} {n k : Nat} (h0 : 0 < r) (h : r < 10 ^ n) (e : 10 ^ n ≤ 2 ^ k) : Bd k r := by
  show r.natAbs < 2 ^ k
  have h1 : (r.natAbs : Int) < ((10 ^ n : Nat) : Int) := by
    rw [Int.natCast_pow]
    have : (r.natAbs : Int) = r := by omega
    rw [this]
    exact h
  have h2 : r.natAbs < 10 ^ n := by omega
  omega
theorem bd_small {r : Int} {k : Nat} (h : r.natAbs < 18446744073709551616) (e : 64 ≤ k) : Bd k r := (Bd.small h).mono e

/-! ### promises of the four ways to reckon -/
/-- two fractions: their values, sizes, denominators -/
def Two (K : PySem.W.Frag) (H : Hp) (v u : V) (a b c d : Int) (k : Nat) : Prop := FrV K H v a b ∧ FrV K H u c d ∧ Bd k a ∧ Bd k b ∧ Bd k c ∧ Bd k d
def spAdded (K : PySem.W.Frag) : Sp := fun vs H Q _ => ∃ (v u : V) (a b c d : Int), vs = [v, u] ∧ FrV K H v a b ∧ FrV K H u c d ∧ Bd 2000 a ∧ Bd 2000 b ∧ Bd 2000 c ∧ Bd 2000 d ∧ 0 < b ∧ 0 < d ∧
  ∀ p, H p = none → Q (.ref p) (upd H p (.tup [.int (lowA (a * d + c * b) (b * d)), .int (lowB (a * d + c * b) (b * d))]))
def spMultiplied (K : PySem.W.Frag) : Sp := fun vs H Q _ => ∃ (v u : V) (a b c d : Int), vs = [v, u] ∧ FrV K H v a b ∧ FrV K H u c d ∧ Bd 2000 a ∧ Bd 2000 b ∧ Bd 2000 c ∧ Bd 2000 d ∧ 0 < b ∧ 0 < d ∧
  ∀ p, H p = none → Q (.ref p) (upd H p (.tup [.int (lowA (a * c) (b * d)), .int (lowB (a * c) (b * d))]))
def spDivided (K : PySem.W.Frag) (C : Addr) : Sp := fun vs H Q E => ∃ (v u : V) (a b c d : Int), vs = [v, u] ∧ FrV K H v a b ∧ FrV K H u c d ∧ Bd 2000 a ∧ Bd 2000 b ∧ Bd 2000 c ∧ Bd 2000 d ∧ 0 < b ∧ 0 < d ∧
  (c = 0 → E (.ref C) none H) ∧ (c ≠ 0 → ∀ p, H p = none → Q (.ref p) (upd H p (.tup [.int (lowA (a * d) (b * c)), .int (lowB (a * d) (b * c))])))
/-- 1, 0, -1, as a / b is above, like, below c / d -/
def sideI (a b c d : Int) : Int := (if c * b < a * d then 1 else 0) - (if a * d < c * b then 1 else 0)
def spCompared (K : PySem.W.Frag) : Sp := fun vs H Q _ => ∃ (v u : V) (a b c d : Int), vs = [v, u] ∧ FrV K H v a b ∧ FrV K H u c d ∧ Bd 2000 a ∧ Bd 2000 b ∧ Bd 2000 c ∧ Bd 2000 d ∧ Q (.int (sideI a b c d)) H

/-! ### isinstance of the exception that a suite holds: its class is said in the reading -/
def rIsE2 (K : PySem.W.Frag) (D a : Addr) (cls : Value) (d : Option Addr) : List V → Hp → VK → Prop := fun xs H Q => cls = .ref D ∧ d = none ∧ rIsE K D a xs H Q
theorem call_isE2 {X : Cx} {a D : Addr} {oe : Obj} {pn : List (Addr × Obj)} {cls : Value} {d : Option Addr} (C : ExcC X.K D) (hz : Zc cls d oe) (hf : ∃ vs, oe.data = .fields vs) :
    CallR (X.suite a ((a, oe) :: pn)) (.builtin "isinstance") (rIsE2 X.K D a cls d) := by
  intro pins s σ H xs us Q I r h
  obtain ⟨rfl, rfl, h⟩ := h
  exact call_isE C hz hf pins s σ H xs us Q I r h
theorem r_isE2 {K : PySem.W.Frag} {D a C : Addr} {cls : Value} {d : Option Addr} {b : Bool} {H : Hp} {Q : VK} (h1 : cls = .ref D) (h2 : d = none) (h : PySem.W.kitOne K (.ref D) (.ref C) = some b) (q : Q (.bl b) H) : rIsE2 K D a cls d [.ref a, .ref C] H Q :=
  ⟨h1, h2, .ref C, .ref C, b, rfl, fun u z => z, h, q⟩
/-! ### what is told of a word and two operands -/
def resD (m n : Int) : PyData := if n = 0 then .list [.str "unfit", .bool true] else .list [.str "told", .tuple [.int (lowA m n), .int (lowB m n)]]
/-- the word's numerator and denominator -/
def Num (K : PySem.W.Frag) (H : Hp) (wd : Str) (v u : V) (m n : Int) : Prop :=
  (wd = "lowest" ∧ v = .int m ∧ u = .int n ∧ Bd 1000 m ∧ Bd 1000 n) ∨
  ∃ a b c d : Int, FrV K H v a b ∧ FrV K H u c d ∧ Bd 500 a ∧ Bd 500 b ∧ Bd 500 c ∧ Bd 500 d ∧ 0 < b ∧ 0 < d ∧
    ((wd = "added" ∧ m = a * d + c * b ∧ n = b * d) ∨ (wd = "multiplied" ∧ m = a * c ∧ n = b * d) ∨ (wd = "divided" ∧ m = a * d ∧ n = b * c))
def spTold (K : PySem.W.Frag) : Sp := fun vs H Q _ => ∃ (wd : Str) (v u : V) (m n : Int) (nm : Bool), vs = [.str wd, v, u, .bl nm] ∧ Num K H wd v u m n ∧ ∀ r H', Same H H' → Dp K H' r (resD m n) → Q r H'
def spDue (K : PySem.W.Frag) : Sp := fun vs H Q _ => ∃ (wd : Str) (v u : V) (m n : Int), vs = [.str wd, v, u] ∧ Num K H wd v u m n ∧ ∀ r H', Same H H' → Dp K H' r (resD m n) → Q r H'

/-! ### targets -/
section
variable {σ : L2.St} {H : Hp} {K : PySem.W.Frag} {n : Nat} {a : Addr} {xs vs : List V} {v : V} {g : TG} {t u : TGs} {RS : L2.St → Hp → Prop}
theorem r_gtup (hs : SqT K H a xs) (hl : xs.length = n) (h : t xs σ H RS) : gTup K n t (.ref a) σ H RS := ⟨a, xs, rfl, hs, hl, h⟩
theorem r_gcons (h : g v σ H fun σ' H' => u vs σ' H' RS) : gCons g u (v :: vs) σ H RS := ⟨v, vs, rfl, h⟩
theorem r_gnil (h : RS σ H) : gNil [] σ H RS := ⟨rfl, h⟩
theorem r_asg {te : TE} {D : Ends} (h : te σ H fun x H1 => g x σ H1 D.nx) : tAsg te g D σ H := h
end

/-- a drawn fraction -/
def FrOk (K : PySem.W.Frag) (H : Hp) (v : V) : Prop := ∃ a b, FrV K H v a b ∧ Bd 366 a ∧ Bd 366 b ∧ 0 < b
theorem FrOk.up {K : PySem.W.Frag} {H H' : Hp} {v : V} (e : Same H H') (h : FrOk K H v) : FrOk K H' v := by
  obtain ⟨a, b, f, r⟩ := h
  exact ⟨a, b, f.up e, r⟩
theorem fit_resD {m n : Int} (hm : Bd 1800 m) (hn : Bd 1800 n) : Fit (resD m n) := by
  unfold resD
  by_cases z : n = 0
  · rw [if_pos z]
    exact ⟨by decide, by decide +kernel, by decide⟩
  · rw [if_neg z]
    have h1 : (PyData.int (lowA m n)).showable = true := sh_int (lowA_bd hm z)
    have h2 : (PyData.int (lowB m n)).showable = true := sh_int (lowB_bd hn z)
    refine ⟨?_, ?_, ?_⟩
    · simp [PyData.showable, PyData.showableAll] at h1 h2 ⊢
      exact ⟨h1, h2⟩
    · have e : wt (.list [.str "told", .tuple [.int (lowA m n), .int (lowB m n)]]) = wt (.list [.str "told", .tuple [.int 0, .int 0]]) := rfl
      rw [e]
      decide +kernel
    · have e : PyData.depth (.list [.str "told", .tuple [.int (lowA m n), .int (lowB m n)]]) = PyData.depth (.list [.str "told", .tuple [.int 0, .int 0]]) := rfl
      rw [e]
      decide
theorem num_bd {K : PySem.W.Frag} {H : Hp} {wd : Str} {v u : V} {m n : Int} (h : Num K H wd v u m n) : Bd 1800 m ∧ Bd 1800 n := by
  rcases h with ⟨_, _, _, h1, h2⟩ | ⟨a, b, c, d, _, _, h1, h2, h3, h4, _, _, ⟨_, rfl, rfl⟩ | ⟨_, rfl, rfl⟩ | ⟨_, rfl, rfl⟩⟩
  · exact ⟨h1.mono (by decide), h2.mono (by decide)⟩
  · exact ⟨((h1.mul h4).add (h3.mul h2)).mono (by decide), (h2.mul h4).mono (by decide)⟩
  · exact ⟨(h1.mul h3).mono (by decide), (h2.mul h4).mono (by decide)⟩
  · exact ⟨(h1.mul h4).mono (by decide), (h2.mul h3).mono (by decide)⟩
theorem Num.up {K : PySem.W.Frag} {H H' : Hp} {wd : Str} {v u : V} {m n : Int} (e : Same H H') (h : Num K H wd v u m n) : Num K H' wd v u m n := by
  rcases h with h | ⟨a, b, c, d, f1, f2, r⟩
  · exact .inl h
  · exact .inr ⟨a, b, c, d, f1.up e, f2.up e, r⟩
theorem side_same (a b : Int) : sideI a b a b = 0 := by
  unfold sideI
  rw [if_neg (by omega)]
  rfl
theorem side_fit (x y z : Int) (h : x.natAbs ≤ 1) (h2 : y.natAbs ≤ 1) (h3 : z.natAbs ≤ 1) : Fit (.list [.int x, .int y, .int z]) := by
  have f : ∀ w : Int, w.natAbs ≤ 1 → (PyData.int w).showable = true := fun w hw => sh_int (k := 64) (bd_small (by omega) (by decide))
  refine ⟨?_, ?_, ?_⟩
  · have h1 := f x h
    have h2 := f y h2
    have h3 := f z h3
    simp [PyData.showable, PyData.showableAll] at h1 h2 h3 ⊢
    exact ⟨h1, h2, h3⟩
  · have e : wt (.list [.int x, .int y, .int z]) = wt (.list [.int 0, .int 0, .int 0]) := rfl
    rw [e]
    decide +kernel
  · have e : PyData.depth (.list [.int x, .int y, .int z]) = PyData.depth (.list [.int 0, .int 0, .int 0]) := rfl
    rw [e]
    decide
theorem side_le (a b c d : Int) : (sideI a b c d).natAbs ≤ 1 := by
  unfold sideI
  split <;> split <;> decide
/-- a law's promise -/
def spLaw (K : PySem.W.Frag) : Sp := fun vs H Q _ => ∃ (a : Addr) (ns : List Int), vs = [.ref a] ∧ SqL K H a (ns.map V.int) ∧ ns.length ≤ 63 ∧ ∀ H', Q (.bl true) H'
end VB

namespace VK
open PySem PySem.Spec PyProof.Rows L2 VB
/-! own short words: "rd" takes one construct of a reading -/
local macro_rules | `(tactic| walk_at "rd") => `(tactic| (first
  | with_reducible refine r_seq ?_ | with_reducible refine r_set ?_ | with_reducible refine r_ret ?_ | with_reducible refine r_drop ?_ | with_reducible refine r_if ?_ | with_reducible refine r_next ?_ | with_reducible refine r_par ?_ | with_reducible refine r_two ?_ | with_reducible refine r_par3 ?_ | with_reducible refine r_three ?_ | with_reducible refine r_gName ?_
  | with_reducible refine r_var (by with_unfolding_all rfl) ?_ | with_reducible refine r_eq (by with_unfolding_all rfl) ?_ | with_reducible refine r_ne (by with_unfolding_all rfl) ?_
  | with_reducible refine r_c ?_ | with_reducible refine r_op ?_ | with_reducible refine r_un ?_ | with_reducible refine r_I0 ?_ | with_reducible refine r_U ?_ | with_reducible refine r_test ?_ | with_reducible refine r_tB ?_ | with_reducible refine r_bl ?_ | with_reducible refine r_and ?_ | with_reducible refine r_or ?_ | with_reducible refine r_not ?_ | with_reducible refine r_andV ?_ | with_reducible refine r_orV ?_ | with_reducible refine r_notV ?_ | with_reducible refine r_nv ?_ | with_reducible refine r_ifx ?_ | with_reducible refine r_tup ?_ | with_reducible refine r_lst ?_ | with_reducible refine r_nil ?_ | with_reducible refine r_cons ?_ | with_reducible refine r_cb ?_ | with_reducible refine r_call ?_ | with_reducible refine r_ck ?_ | with_reducible refine r_abs ?_ | with_reducible refine r_int ?_ | with_reducible refine r_intb ?_ | with_reducible refine r_dget ?_ | with_reducible refine r_dput ?_ | with_reducible refine r_bm ?_ | with_reducible refine r_bm0 ?_ | with_reducible refine r_sl ?_ | with_reducible refine r_none ?_ | with_reducible refine r_some ?_ | with_reducible refine r_someI ?_ | with_reducible refine r_iL ?_ | with_reducible refine r_iT ?_ | with_reducible refine r_rng1 ?_ | with_reducible refine r_rng2 ?_ | with_reducible refine r_for ?_ | with_reducible refine r_lc ?_ | with_reducible refine r_yesT ?_ | with_reducible refine r_pcons ?_ | with_reducible refine r_pnil ?_ | with_reducible refine r_gcons ?_ | with_reducible refine r_gnil ?_ | with_reducible refine r_asg ?_))
local macro_rules | `(tactic| walk_at "rds") => `(tactic| (repeat walk_at "rd"))
def topS (i : Nat) : Stmt := PySem.Challenge.pw_veiledchains_k01_whole_fractions_beside.main.body.getD i (.Pass ⟨0, 0, 0, 0⟩)
abbrev s_lowest : Stmt := topS 5
theorem sc_lowest : FnScope ["a", "b", "common"] ["a", "b"] (defScope s_lowest) := ⟨rfl, rfl, rfl, by decide +kernel, rfl, by decide +kernel, by decide +kernel⟩
abbrev s_added : Stmt := topS 6
theorem sc_added : FnScope ["one", "other"] ["one", "other"] (defScope s_added) := ⟨rfl, rfl, rfl, by decide +kernel, rfl, by decide +kernel, by decide +kernel⟩
abbrev s_multiplied : Stmt := topS 7
theorem sc_multiplied : FnScope ["one", "other"] ["one", "other"] (defScope s_multiplied) := ⟨rfl, rfl, rfl, by decide +kernel, rfl, by decide +kernel, by decide +kernel⟩
abbrev s_divided : Stmt := topS 8
theorem sc_divided : FnScope ["one", "other"] ["one", "other"] (defScope s_divided) := ⟨rfl, rfl, rfl, by decide +kernel, rfl, by decide +kernel, by decide +kernel⟩
abbrev s_compared : Stmt := topS 9
theorem sc_compared : FnScope ["one", "other", "left", "right"] ["one", "other"] (defScope s_compared) := ⟨rfl, rfl, rfl, by decide +kernel, rfl, by decide +kernel, by decide +kernel⟩
abbrev s_law_deck : Stmt := topS 11
theorem sc_law_deck : FnScope ["script", "cell", "cells", "stirred"] ["script"] (defScope s_law_deck) := ⟨rfl, rfl, rfl, by decide +kernel, rfl, by decide +kernel, by decide +kernel⟩
abbrev s_law_draw : Stmt := topS 12
theorem sc_law_draw : FnScope ["deck", "many", "great", "cell", "one"] ["deck", "many"] (defScope s_law_draw) := ⟨rfl, rfl, rfl, by decide +kernel, rfl, by decide +kernel, by decide +kernel⟩
abbrev s_law_pick : Stmt := topS 13
theorem sc_law_pick : FnScope ["deck", "items"] ["deck", "items"] (defScope s_law_pick) := ⟨rfl, rfl, rfl, by decide +kernel, rfl, by decide +kernel, by decide +kernel⟩
abbrev s_law_gcd : Stmt := topS 14
theorem sc_law_gcd : FnScope ["a", "b"] ["a", "b"] (defScope s_law_gcd) := ⟨rfl, rfl, rfl, by decide +kernel, rfl, by decide +kernel, by decide +kernel⟩
abbrev s_law_low : Stmt := topS 15
theorem sc_law_low : FnScope ["a", "b", "common"] ["a", "b"] (defScope s_law_low) := ⟨rfl, rfl, rfl, by decide +kernel, rfl, by decide +kernel, by decide +kernel⟩
abbrev s_law_great : Stmt := topS 16
theorem sc_law_great : FnScope ["deck", "figures", "found", "turn"] ["deck", "figures"] (defScope s_law_great) := ⟨rfl, rfl, rfl, by decide +kernel, rfl, by decide +kernel, by decide +kernel⟩
abbrev s_law_int : Stmt := topS 17
theorem sc_law_int : FnScope ["deck", "kind", "whole"] ["deck"] (defScope s_law_int) := ⟨rfl, rfl, rfl, by decide +kernel, rfl, by decide +kernel, by decide +kernel⟩
abbrev s_law_some : Stmt := topS 18
theorem sc_law_some : FnScope ["deck", "under"] ["deck"] (defScope s_law_some) := ⟨rfl, rfl, rfl, by decide +kernel, rfl, by decide +kernel, by decide +kernel⟩
abbrev s_law_told : Stmt := topS 19
theorem sc_law_told : FnScope ["word", "one", "other", "is_named", "slip"] ["word", "one", "other", "is_named"] (defScope s_law_told) := ⟨rfl, rfl, rfl, by decide +kernel, rfl, by decide +kernel, by decide +kernel⟩
abbrev s_law_due : Stmt := topS 20
theorem sc_law_due : FnScope ["word", "one", "other", "a", "b", "c", "d"] ["word", "one", "other"] (defScope s_law_due) := ⟨rfl, rfl, rfl, by decide +kernel, rfl, by decide +kernel, by decide +kernel⟩
abbrev s_law_side : Stmt := topS 21
theorem sc_law_side : FnScope ["one", "other", "left", "right"] ["one", "other"] (defScope s_law_side) := ⟨rfl, rfl, rfl, by decide +kernel, rfl, by decide +kernel, by decide +kernel⟩
abbrev s_law : Stmt := topS 22
theorem sc_law : FnScope ["script", "deck", "turn", "a", "b", "by", "due", "one", "about", "other", "word", "found"] ["script"] (defScope s_law) := ⟨rfl, rfl, rfl, by decide +kernel, rfl, by decide +kernel, by decide +kernel⟩
def gW_divided_other_one : List Value → List Value → List Value
  | [], [k0, k1] => [k1, k0]
  | _, _ => []
def gV_divided_other_one : List V → List V → List V
  | [], [k0, k1] => [k1, k0]
  | _, _ => []
theorem kw_divided_other_one : KwIs s_divided "divided" ["one", "other"] ["other", "one"] gW_divided_other_one gV_divided_other_one where
  to := by
    intro kV doc pm an cdv ct us ws hl
    have h : ∃ k0 k1, us = [] ∧ ws = [k0, k1] := by
      unfold gW_divided_other_one at hl
      split at hl
      · exact ⟨_, _, rfl, rfl⟩
      · cases hl
    obtain ⟨k0, k1, rfl, rfl⟩ := h
    rfl
  rel := by
    intro vs us zs ws r q
    cases r with
    | nil => 
      cases q with
      | nil => exact .nil
      | cons rk0 q =>
        cases q with
        | nil => exact .nil
        | cons rk1 q =>
          cases q with
          | nil => exact (.cons rk1 (.cons rk0 .nil))
          | cons _ _ => exact .nil
    | cons _ _ => exact .nil
def gW_lowest_b_a : List Value → List Value → List Value
  | [], [k0, k1] => [k1, k0]
  | _, _ => []
def gV_lowest_b_a : List V → List V → List V
  | [], [k0, k1] => [k1, k0]
  | _, _ => []
theorem kw_lowest_b_a : KwIs s_lowest "lowest" ["a", "b"] ["b", "a"] gW_lowest_b_a gV_lowest_b_a where
  to := by
    intro kV doc pm an cdv ct us ws hl
    have h : ∃ k0 k1, us = [] ∧ ws = [k0, k1] := by
      unfold gW_lowest_b_a at hl
      split at hl
      · exact ⟨_, _, rfl, rfl⟩
      · cases hl
    obtain ⟨k0, k1, rfl, rfl⟩ := h
    rfl
  rel := by
    intro vs us zs ws r q
    cases r with
    | nil => 
      cases q with
      | nil => exact .nil
      | cons rk0 q =>
        cases q with
        | nil => exact .nil
        | cons rk1 q =>
          cases q with
          | nil => exact (.cons rk1 (.cons rk0 .nil))
          | cons _ _ => exact .nil
    | cons _ _ => exact .nil
def gW_added_other_one : List Value → List Value → List Value
  | [], [k0, k1] => [k1, k0]
  | _, _ => []
def gV_added_other_one : List V → List V → List V
  | [], [k0, k1] => [k1, k0]
  | _, _ => []
theorem kw_added_other_one : KwIs s_added "added" ["one", "other"] ["other", "one"] gW_added_other_one gV_added_other_one where
  to := by
    intro kV doc pm an cdv ct us ws hl
    have h : ∃ k0 k1, us = [] ∧ ws = [k0, k1] := by
      unfold gW_added_other_one at hl
      split at hl
      · exact ⟨_, _, rfl, rfl⟩
      · cases hl
    obtain ⟨k0, k1, rfl, rfl⟩ := h
    rfl
  rel := by
    intro vs us zs ws r q
    cases r with
    | nil => 
      cases q with
      | nil => exact .nil
      | cons rk0 q =>
        cases q with
        | nil => exact .nil
        | cons rk1 q =>
          cases q with
          | nil => exact (.cons rk1 (.cons rk0 .nil))
          | cons _ _ => exact .nil
    | cons _ _ => exact .nil
def gW_multiplied_other_one : List Value → List Value → List Value
  | [], [k0, k1] => [k1, k0]
  | _, _ => []
def gV_multiplied_other_one : List V → List V → List V
  | [], [k0, k1] => [k1, k0]
  | _, _ => []
theorem kw_multiplied_other_one : KwIs s_multiplied "multiplied" ["one", "other"] ["other", "one"] gW_multiplied_other_one gV_multiplied_other_one where
  to := by
    intro kV doc pm an cdv ct us ws hl
    have h : ∃ k0 k1, us = [] ∧ ws = [k0, k1] := by
      unfold gW_multiplied_other_one at hl
      split at hl
      · exact ⟨_, _, rfl, rfl⟩
      · cases hl
    obtain ⟨k0, k1, rfl, rfl⟩ := h
    rfl
  rel := by
    intro vs us zs ws r q
    cases r with
    | nil => 
      cases q with
      | nil => exact .nil
      | cons rk0 q =>
        cases q with
        | nil => exact .nil
        | cons rk1 q =>
          cases q with
          | nil => exact (.cons rk1 (.cons rk0 .nil))
          | cons _ _ => exact .nil
    | cons _ _ => exact .nil
def gW_compared_other_one : List Value → List Value → List Value
  | [], [k0, k1] => [k1, k0]
  | _, _ => []
def gV_compared_other_one : List V → List V → List V
  | [], [k0, k1] => [k1, k0]
  | _, _ => []
theorem kw_compared_other_one : KwIs s_compared "compared" ["one", "other"] ["other", "one"] gW_compared_other_one gV_compared_other_one where
  to := by
    intro kV doc pm an cdv ct us ws hl
    have h : ∃ k0 k1, us = [] ∧ ws = [k0, k1] := by
      unfold gW_compared_other_one at hl
      split at hl
      · exact ⟨_, _, rfl, rfl⟩
      · cases hl
    obtain ⟨k0, k1, rfl, rfl⟩ := h
    rfl
  rel := by
    intro vs us zs ws r q
    cases r with
    | nil => 
      cases q with
      | nil => exact .nil
      | cons rk0 q =>
        cases q with
        | nil => exact .nil
        | cons rk1 q =>
          cases q with
          | nil => exact (.cons rk1 (.cons rk0 .nil))
          | cons _ _ => exact .nil
    | cons _ _ => exact .nil
section
variable {P : Program} {w : World} {K : PySem.W.Frag} {mg : Str → Option Value} {base : Heap}
theorem ok_law_draw (B : Blt mg) {f : Addr} {fd : FuncData} (F : Fun K "_law_draw" "_law_draw" s_law_draw f fd) : FG P w K mg base 1 f fd ["deck", "many"] spDraw := by
  refine okX F sc_law_draw (fun vs H Q E h => ?_) (fun cdv A out s H vs Q E gu hr h => ?_)
  · obtain ⟨d, l, m, rfl, _⟩ := h
    rfl
  · obtain ⟨d, l, m, rfl, hD, hm, k⟩ := h
    have hu := hu_of hr
    refine ⟨_, (pss_cons (ps_set (i := 2) sc_law_draw.nd rfl (.inl rfl) (pe_dget hu (pv 0) pe_str (fun _ _ => rfl)))
      (pss_cons (ps_if (pt_cmpR op_lt (pv 1) pe_int (nomark _)) (pss_one (ps_ret pe_int)) pss_nil)
      (pss_cons (ps_if (pt_cmpR (op_neD hr.units) (pv 2) (pe_lst pa_nil) (nomark _)) (pss_cons (ps_set (i := 3) sc_law_draw.nd rfl (.inl rfl) (pe_bm0 PySem.F.plainAttrs_list PySem.F.slot_list_pop PySem.F.type_list_pop mt_pop (pv 2)))
      (pss_cons (ps_if (pt_cmpR op_ge (pv 3) (pv 1) (nomark _)) (pss_one (ps_expr (pe_bm PySem.F.plainAttrs_list PySem.F.slot_list_append PySem.F.type_list_append mt_append (pv 2) (pa_cons (pe_op op_dv (pv 3) (pv 1)) pa_nil)))) pss_nil)
      (pss_one (ps_ret (pe_op op_modN (pe_callTy (T := "int") cl_int (by rfl) B.int (by decide +kernel) (pa_cons (pv 3) pa_nil)) (pv 1)))))) pss_nil)
      (pss_cons (ps_dput hu (pv 0) pe_str (pe_op op_add (pe_dget hu (pv 0) pe_str (fun _ _ => rfl)) pe_int) rfl)
      (pss_cons (ps_set (i := 4) sc_law_draw.nd rfl (.inl rfl) (pe_op op_mod (pe_callTy (T := "int") cl_int (by rfl) B.int (by decide +kernel) (pa_cons (pe_op op_add (pe_dget hu (pv 0) pe_str (fun _ _ => rfl)) (pe_op op_ml pe_int (pe_dget hu (pv 0) pe_str (fun _ _ => rfl)))) pa_nil)) pe_int))
      (pss_cons (ps_set (i := 4) sc_law_draw.nd rfl (.inl rfl) (pe_op op_mod (pe_callTy (T := "int") cl_int (by rfl) B.int (by decide +kernel) (pa_cons (pe_op op_add (pe_op op_add (pe_op op_ml (pv 4) (pv 4)) (pe_op op_ml pe_int (pe_dget hu (pv 0) pe_str (fun _ _ => rfl)))) pe_int) pa_nil)) pe_int))
      (pss_cons (ps_set (i := 4) sc_law_draw.nd rfl (.inl rfl) (pe_op op_mod (pe_callTy (T := "int") cl_int (by rfl) B.int (by decide +kernel) (pa_cons (pe_op op_add (pe_op op_ml (pv 4) (pv 4)) (pe_dget hu (pv 0) pe_str (fun _ _ => rfl))) pa_nil)) pe_int))
      (pss_one (ps_ret (pe_op op_modN (pe_callTy (T := "int") cl_int (by rfl) B.int (by decide +kernel) (pa_cons (pe_op op_fdiv (pv 4) pe_int) pa_nil)) (pv 1))))))))))), ?_⟩
    obtain ⟨⟨kvs, st, tn, hd, hl, vG, vS, vT, h0⟩, ⟨ns, hL, hn, hln⟩⟩ := id hD
    have dl := hD.dl
    walk_at "rds"
    refine r_dgetK (k := kG) hd vG ?_
    walk_at "rds"
    refine r_ifs (fun c => ?_) (fun c => ?_)
    · walk_at "rds"
      exact k 0 H (Adv.refl hD) (Int.le_refl _) (.inr rfl)
    · have hm2 : 2 ≤ m := by
        have := of_decide_eq_false c
        omega
      walk_at "rds"
      refine r_newL (Nat.zero_le _) fun p hp => ?_
      have hpl : p ≠ d ∧ p ≠ l := hD.ne hp
      have hd1 : upd H p (.lst []) d = some (.dK kvs) := by rw [upd_ne hpl.1.symm]; exact hd
      have hL1 : upd H p (.lst []) l = some (.lst (ns.map V.int)) := by rw [upd_ne hpl.2.symm]; exact hL
      have a1 : Adv d l H (upd H p (.lst [])) := .new hD hp
      refine r_neNil (SqL.of hL1) (SqL.of upd_same) ?_
      walk_at "rds"
      refine r_ifs (fun c2 => ?_) (fun c2 => ?_)
      · have hne : ns ≠ [] := by intro z; subst z; exact absurd c2 (by decide)
        obtain ⟨r, x, rfl, e1, e2⟩ := last_int hne
        have hx : 0 ≤ x := hn x (by simp)
        have a2 : Adv d l H (upd (upd H p (.lst [])) l (.lst (r.map V.int))) :=
          ⟨⟨⟨kvs, st, tn, by rw [upd_ne dl]; exact hd1, hl, vG, vS, vT, h0⟩, ⟨r, upd_same, fun n hm => hn n (by simp [hm]), by simp at hln; omega⟩⟩, by rw [hid_updl]; exact a1.st⟩
        walk_at "rds"
        refine r_pop hL1 e1 ?_
        rw [e2]
        walk_at "rds"
        refine r_ifs (fun c3 => ?_) (fun c3 => ?_)
        · walk_at "rds"
          refine r_tyL upd_same ?_
          walk_at "rds"
          refine r_I ⟨by omega, hm⟩ ?_
          walk_at "rds"
          refine r_app upd_same (by simp at hln ⊢; omega) ?_
          walk_at "rds"
          refine r_I (by omega) ?_
          walk_at "rds"
          have hf := fmod_lt (a := x) hm2
          refine k _ _ ⟨⟨⟨kvs, st, tn, ?_, hl, vG, vS, vT, h0⟩, ⟨r ++ [x.fdiv m], ?_, ?_, ?_⟩⟩, ?_⟩ hf.1 (.inl hf.2)
          · rw [upd_ne dl, upd_ne dl]; exact hd1
          · rw [upd_same, List.map_append]; rfl
          · intro n hm
            rcases List.mem_append.mp hm with z | z
            · exact hn n (by simp [z])
            · rw [List.mem_singleton.mp z]; exact fdiv_nn hx (by omega)
          · simp at hln ⊢; omega
          · rw [hid_updl]; exact a2.st
        · walk_at "rds"
          refine r_I (by omega) ?_
          walk_at "rds"
          have hf := fmod_lt (a := x) hm2
          exact k _ _ a2 hf.1 (.inl hf.2)
      · walk_at "rds"
        refine r_dgetK (k := kT) hd1 vT ?_
        walk_at "rds"
        refine r_dputK (k := kT) hd1 (by omega) ?_
        have hd2 : upd (upd H p (.lst [])) d (.dK (putK kvs kT (.int (tn + 1)))) d = some (.dK (putK kvs kT (.int (tn + 1)))) := upd_same
        have wS : valV (putK kvs kT (.int (tn + 1))) kS = some (.int st) := by rw [valV_put, if_neg kST]; exact vS
        have wG : valV (putK kvs kT (.int (tn + 1))) kG = some (.ref l) := by rw [valV_put, if_neg kGT]; exact vG
        have wT : valV (putK kvs kT (.int (tn + 1))) kT = some (.int (tn + 1)) := by rw [valV_put, if_pos rfl]
        have a2 : Adv d l H (upd (upd H p (.lst [])) d (.dK (putK kvs kT (.int (tn + 1))))) :=
          ⟨⟨⟨_, st, tn + 1, upd_same, by rw [put_len vT]; exact hl, wG, wS, wT, h0⟩, ⟨ns, by rw [upd_ne dl.symm]; exact hL1, hn, hln⟩⟩, by rw [hid_updd]; exact a1.st⟩
        walk_at "rds"
        refine r_dgetK (k := kS) hd2 wS ?_
        walk_at "rds"
        refine r_dgetK (k := kT) hd2 wT ?_
        walk_at "rds"
        refine r_I (mul_small (by decide) (by decide)) ?_
        walk_at "rds"
        refine r_I (by decide) ?_
        walk_at "rds"
        have q1 : ∀ z : Int, 0 ≤ z % 4294967279 ∧ z % 4294967279 < 4294967279 := fun z => ⟨Int.emod_nonneg z (by decide), Int.emod_lt_of_pos z (by decide)⟩
        refine r_I (mul_small (q1 _).1 (by have := (q1 (st + 2654435761 * (tn + 1))).2; omega)) ?_
        walk_at "rds"
        refine r_dgetK (k := kT) hd2 wT ?_
        walk_at "rds"
        refine r_I (mul_small (by decide) (by decide)) ?_
        walk_at "rds"
        refine r_I (by decide) ?_
        walk_at "rds"
        have q2 : ∀ z : Int, 0 ≤ z % 4294967231 ∧ z % 4294967231 < 4294967231 := fun z => ⟨Int.emod_nonneg z (by decide), Int.emod_lt_of_pos z (by decide)⟩
        generalize (st + 2654435761 * (tn + 1)) % 4294967279 = y1
        refine r_I (mul_small (q2 _).1 (by have := (q2 (y1 * y1 + 97 * (tn + 1) + 53)).2; omega)) ?_
        walk_at "rds"
        refine r_dgetK (k := kS) hd2 wS ?_
        walk_at "rds"
        refine r_I (by decide) ?_
        walk_at "rds"
        refine r_I ⟨by decide, by decide⟩ ?_
        walk_at "rds"
        refine r_I (by omega) ?_
        walk_at "rds"
        generalize (y1 * y1 + 97 * (tn + 1) + 53) % 4294967231 = y2
        have hf := fmod_lt (a := (y2 * y2 + st) % 4294967197 / 16) hm2
        exact k _ _ a2 hf.1 (.inl hf.2)
theorem ok_law_pick (B : Blt mg) {f : Addr} {fd : FuncData} (F : Fun K "_law_pick" "_law_pick" s_law_pick f fd) (c_law_draw : FnAt P w K mg base s_law_draw 1 "_law_draw" ["deck", "many"] spDraw) :
    FG P w K mg base 2 f fd ["deck", "items"] (spPick K) := by
  refine okX F sc_law_pick (fun vs H Q E h => ?_) (fun cdv A out s H vs Q E gu hr h => ?_)
  · obtain ⟨d, l, q, xs, rfl, _⟩ := h
    rfl
  · obtain ⟨d, l, q, xs, rfl, hD, hS, h0, h1, k⟩ := h
    have hu := hu_of hr
    refine ⟨_, (pss_one (ps_ret (pe_ix (r := rIxL K) ix_list (pv 1) (pe_c c_law_draw gu (hr.mono (by decide)) (fun σ => passN σ) (pa_cons (pv 0) (pa_cons (pe_callB (r := VB.rLen K) cl_len (by rfl) B.len (by decide +kernel) (pa_cons (pv 1) pa_nil)) pa_nil))) (fun _ _ => rfl)))), ?_⟩
    walk_at "rds"
    refine r_len (.inl (seqL_same hid_sub hS)) ?_
    walk_at "rds"
    refine ⟨d, l, _, rfl, hD, log2_small (by omega), fun r H' a hr0 hr1 => ?_⟩
    have hlt : r.toNat < xs.length := by omega
    have e : ((r.toNat : Nat) : Int) = r := by omega
    have z := atI_nat (List.getElem?_eq_getElem hlt)
    rw [e] at z
    refine r_ixL (seqL_same hid_sub (seqL_same a.st hS)) z ?_
    exact k _ _ a (List.getElem_mem hlt)

theorem ok_law_deck (B : Blt mg) {f : Addr} {fd : FuncData} (F : Fun K "_law_deck" "_law_deck" s_law_deck f fd) : FG P w K mg base 1 f fd ["script"] (spDeck K) := by
  refine okX F sc_law_deck (fun vs H Q E h => ?_) (fun cdv A out s H vs Q E gu hr h => ?_)
  · obtain ⟨a, ns, rfl, _⟩ := h
    rfl
  · obtain ⟨a, ns, rfl, hS, hlen, k⟩ := h
    have hu := hu_of hr
    refine ⟨_, (pss_cons (ps_par (i := 2) (j := 3) (by rfl) sc_law_deck.nd rfl rfl (by decide) rfl rfl (pa_cons (pe_lc (own := [("cell", 1)]) (g := (gName 1)) (tt := tYes) rfl sc_law_deck.nd (pi_list (pe_slice sl_list (pv 0) po_none (po_some pe_int))) (blkOk_by (own := [("cell", 1)]) (N := ["script", "cell", "cells", "stirred"]) (sc := defScope s_law_deck) (by decide +kernel)) (fun _ _ _ _ _ => (pg_name (i := 1) sc_law_deck.nd rfl (.inl rfl))) (fun _ _ _ _ _ => pts_nil) (fun _ _ _ _ _ => (pe_op op_add (pe_op op_ml pe_int (pe_callB cl_abs (by rfl) B.abs (by decide +kernel) (pa_cons (pv 1) pa_nil))) (pe_callTy (T := "int") cl_int (by rfl) B.int (by decide +kernel) (pa_cons (pe_cmpR op_lt (pv 1) pe_int (nomark _)) pa_nil))))) (pa_cons (pe_op op_add pe_int (pe_callB (r := VB.rLen K) cl_len (by rfl) B.len (by decide +kernel) (pa_cons (pv 0) pa_nil))) pa_nil)) (by rfl))
      (pss_cons (ps_for (passes_of rfl) rfl (pi_list (pv 2)) (pg_name (i := 1) sc_law_deck.nd rfl (.inl rfl))
        (pss_one (ps_set (i := 3) sc_law_deck.nd rfl (.inl rfl) (pe_op op_mod (pe_callTy (T := "int") cl_int (by rfl) B.int (by decide +kernel) (pa_cons (pe_op op_add (pe_op op_add (pe_op op_ml (pv 3) pe_int) (pv 1)) pe_int) pa_nil)) pe_int))))
      (pss_one (ps_ret (pe_disp (pps_cons pe_str (pe_lc (own := [("cell", 1)]) (g := (gName 1)) rfl sc_law_deck.nd (pi_list (pv 2)) (blkOk_by (own := [("cell", 1)]) (N := ["script", "cell", "cells", "stirred"]) (sc := defScope s_law_deck) (by decide +kernel)) (fun _ _ _ _ _ => (pg_name (i := 1) sc_law_deck.nd rfl (.inl rfl))) (fun _ _ _ _ _ => (pts_one (pt_cmpR op_ge (pv 1) (pe_op op_pow pe_int pe_int) (nomark _)))) (fun _ _ _ _ _ => (pv 1))) (pps_cons pe_str (pv 3) (pps_cons pe_str pe_int pps_nil))) (by rfl) (by rfl) (fun z => by cases z) (by decide)))))), ?_⟩
    walk_at "rds"
    refine r_slL hS fun b hb => ?_
    have s1 : Same H (upd H b (.lst (cutV (ns.map V.int) none (some 60)))) := same_new hb
    obtain ⟨ms, em, lm⟩ := cut_ints ns 60
    have em : cutV (ns.map V.int) none (some 60) = ms.map V.int := em
    rw [em] at s1 ⊢
    refine r_lk (SqL.of upd_same) (r_lcM (fun v => match v with | .int i => .int (2 * (if i < 0 then -i else i) + (if decide (i < 0) = true then 1 else 0)) | v => v) (SqL.of upd_same) (by rw [List.length_map]; omega) (fun x hx H' S h => ?_) fun c hc => ?_)
    · obtain ⟨i, _, rfl⟩ := List.mem_map.mp hx
      walk_at "rds"
      refine r_I (mul_small (by decide) (by decide)) ?_
      walk_at "rds"
      exact h
    · rw [List.map_map]
      have fe : ((fun v => match v with | .int i => .int (2 * (if i < 0 then -i else i) + (if decide (i < 0) = true then 1 else 0)) | v => v) ∘ V.int : Int → V) = V.int ∘ cellV := rfl
      rw [fe, ← List.map_map]
      have s2 : Same H (upd (upd H b (.lst (ms.map V.int))) c (.lst ((ms.map cellV).map V.int))) := s1.trans (same_new hc)
      walk_at "rds"
      refine r_len (.inl (seqL_same s2 hS)) ?_
      walk_at "rds"
      generalize hH : upd (upd H b (.lst (ms.map V.int))) c (.lst ((ms.map cellV).map V.int)) = H1 at *
      have hC : H1 c = some (.lst ((ms.map cellV).map V.int)) := by rw [← hH]; exact upd_same
      refine r_lk (SqL.of hC) (r_forL (xs := (ms.map cellV).map V.int) (fun i σ H' => ∃ (y : Option V) (st : Int), σ = [some (.ref a), y, some (.ref c), some (.int st)] ∧ 0 ≤ st ∧ H' = H1) ⟨none, _, rfl, by omega, rfl⟩ (fun i σ H' _ h => ?_) (fun i x σ H' hx h => ?_) fun σ H' h => ?_)
      · obtain ⟨_, _, _, _, rfl⟩ := h
        exact SqL.of hC
      · obtain ⟨y, st, rfl, h0, rfl⟩ := h
        obtain ⟨z, _, rfl⟩ := List.mem_map.mp (List.mem_of_getElem? hx)
        walk_at "rds"
        refine r_I (mul_smallR (by decide) (by decide)) ?_
        walk_at "rds"
        refine r_I (by decide) ?_
        walk_at "rds"
        exact ⟨_, _, rfl, Int.emod_nonneg _ (by decide), rfl⟩
      · obtain ⟨y, st, rfl, h0, rfl⟩ := h
        walk_at "rds"
        refine r_disp fun p hp => ?_
        walk_at "rds"
        have hCp : upd H' p (.dK []) c = some (.lst ((ms.map cellV).map V.int)) := by rw [upd_ne (ne_of_none hC hp)]; exact hC
        refine r_lk (SqL.of hCp) (r_lcFM (fun v => match v with | .int i => decide (10 ^ 16 ≤ i) | _ => false) (fun v => v) (SqL.of hCp) (by simp; omega) (fun x hx H' S h => ?_) (fun x hx _ H' S h => ?_) fun l hl => ?_)
        · obtain ⟨i, _, rfl⟩ := List.mem_map.mp hx
          walk_at "rds"
          refine r_I ⟨by decide, by decide, by decide⟩ ?_
          walk_at "rds"
          exact h
        · obtain ⟨i, _, rfl⟩ := List.mem_map.mp hx
          walk_at "rds"
          exact h
        · have e1 : List.map (fun v => v) (List.filter (fun v : V => match v with | .int i => decide (10 ^ 16 ≤ i) | _ => false) (List.map V.int (List.map cellV ms))) = List.map V.int (List.filter (fun i => decide (10 ^ 16 ≤ i)) (ms.map cellV)) := by
            rw [List.map_id', List.filter_map]; rfl
          rw [e1]
          walk_at "rds"
          have npl : p ≠ l := ne_of_none upd_same hl
          refine r_dispk [(kG, .ref l), (kS, .int st), (kT, .int 0)] (by rw [upd_ne npl]; exact upd_same) (by simp) ?_
          have hp0 : H p = none := s2.free hp
          have hl0 : H l = none := s2.free ((same_new hp).free hl)
          refine k p l _ hp0 hl0 ?_ ⟨⟨_, st, 0, upd_same, ?_, ?_, ?_, ?_, h0⟩, ⟨_, by rw [upd_ne npl.symm]; exact upd_same, ?_, ?_⟩⟩
          · intro x o hx
            rw [upd_ne (ne_of_none hx hp0), upd_ne (ne_of_none hx hl0), upd_ne (ne_of_none hx hp0)]
            exact s2 x o hx
          · exact Nat.le_trans (length_mergeK _ _) (by simp)
          · show valV (putK (putK (putK [] kG (V.ref l)) kS (V.int st)) kT (V.int 0)) kG = _
            rw [valV_put, if_neg kGT, valV_put, if_neg kGS, valV_put, if_pos rfl]
          · show valV (putK (putK (putK [] kG (V.ref l)) kS (V.int st)) kT (V.int 0)) kS = _
            rw [valV_put, if_neg kST, valV_put, if_pos rfl]
          · show valV (putK (putK (putK [] kG (V.ref l)) kS (V.int st)) kT (V.int 0)) kT = _
            rw [valV_put, if_pos rfl]
          · intro n hn
            have := (List.mem_filter.mp hn).2
            have h2 : (10 ^ 16 : Int) ≤ n := of_decide_eq_true this
            omega
          · refine Nat.le_trans (List.length_filter_le _ _) ?_
            rw [List.length_map]
            omega
theorem ok_law_gcd (B : Blt mg) {f : Addr} {fd : FuncData} (F : Fun K "_law_gcd" "_law_gcd" s_law_gcd f fd) : FG P w K mg base 1 f fd ["a", "b"] spGcd := by
  refine okX F sc_law_gcd (fun vs H Q E h => ?_) (fun cdv A out s H vs Q E gu hr h => ?_)
  · obtain ⟨a, b, rfl, _⟩ := h
    rfl
  · obtain ⟨a, b, rfl, k⟩ := h
    refine ⟨_, (pss_cons (ps_par (i := 0) (j := 1) (by rfl) sc_law_gcd.nd rfl rfl (by decide) rfl rfl (pa_cons (pe_callB cl_abs (by rfl) B.abs (by decide +kernel) (pa_cons (pv 0) pa_nil)) (pa_cons (pe_callB cl_abs (by rfl) B.abs (by decide +kernel) (pa_cons (pv 1) pa_nil)) pa_nil)) (by rfl))
      (pss_cons (ps_while (passes_of rfl) (pt_cmpR op_ne (pv 1) pe_int (nomark _)) (pss_one (ps_par (i := 0) (j := 1) (by rfl) sc_law_gcd.nd rfl rfl (by decide) rfl rfl (pa_cons (pv 1) (pa_cons (pe_op op_modN (pe_callTy (T := "int") cl_int (by rfl) B.int (by decide +kernel) (pa_cons (pv 0) pa_nil)) (pv 1)) pa_nil)) (by rfl))))
      (pss_one (ps_ret (pv 0))))), ?_⟩
    walk_at "rds"
    refine while_by (fun σ H' => ∃ x y : Int, σ = [some (.int x), some (.int y)] ∧ 0 ≤ x ∧ 0 ≤ y ∧ Nat.gcd x.natAbs y.natAbs = Nat.gcd a.natAbs b.natAbs ∧ H' = H) (fun σ _ => match σ with | [_, some (.int y)] => y.natAbs | _ => 0) ⟨_, _, rfl, by split <;> omega, by split <;> omega, ?_, rfl⟩ (fun σ H' h => ?_) (fun σ H' R R' m h => ?_)
    · have e1 : (if a < 0 then -a else a).natAbs = a.natAbs := by split <;> omega
      have e2 : (if b < 0 then -b else b).natAbs = b.natAbs := by split <;> omega
      rw [e1, e2]
    · obtain ⟨x, y, rfl, hx, hy, hg, rfl⟩ := h
      walk_at "rds"
      refine ite2 (fun c => ?_) (fun c => ?_)
      · have y0 : y ≠ 0 := fun z => by subst z; exact absurd c (by decide)
        walk_at "rds"
        refine r_I y0 ?_
        walk_at "rds"
        have hm : x.fmod y = x % y := Int.fmod_eq_emod_of_nonneg x hy
        refine ⟨⟨y, x.fmod y, rfl, hy, by rw [hm]; exact Int.emod_nonneg x y0, ?_, rfl⟩, ?_⟩
        · rw [← hg, hm, Int.natAbs_emod_of_nonneg hx, Nat.gcd_comm x.natAbs, Nat.gcd_rec y.natAbs x.natAbs, Nat.gcd_comm]
        · show (x.fmod y).natAbs < y.natAbs
          rw [hm]
          have := Int.emod_nonneg x y0
          have := Int.emod_lt_of_pos x (show 0 < y by omega)
          omega
      · have y0 : y = 0 := by
          refine Classical.byContradiction fun z => c ?_
          rw [decide_eq_false (fun e => z (V.int.inj e))]
          rfl
        subst y0
        walk_at "rds"
        have e : x = gcdI a b := by
          show x = ((Nat.gcd a.natAbs b.natAbs : Nat) : Int)
          rw [← hg, Int.natAbs_zero, Nat.gcd_zero_right]
          omega
        rw [e]
        exact k
    · obtain ⟨v, h1, h2, kk, h3, h4⟩ := h
      exact ⟨v, h1, h2, kk, h3, m _ _ h4⟩
theorem ok_law_low (B : Blt mg) {f : Addr} {fd : FuncData} (F : Fun K "_law_low" "_law_low" s_law_low f fd) (c_law_gcd : FnAt P w K mg base s_law_gcd 1 "_law_gcd" ["a", "b"] spGcd) : FG P w K mg base 2 f fd ["a", "b"] spLow := by
  refine okX F sc_law_low (fun vs H Q E h => ?_) (fun cdv A out s H vs Q E gu hr h => ?_)
  · obtain ⟨a, b, rfl, _⟩ := h
    rfl
  · obtain ⟨a, b, rfl, hb, hz, k⟩ := h
    refine ⟨_, (pss_cons (ps_set (i := 2) sc_law_low.nd rfl (.inl rfl) (pe_c c_law_gcd gu (hr.mono (by decide)) (fun σ => passN σ) (pa_cons (pv 0) (pa_cons (pv 1) pa_nil))))
      (pss_cons (ps_set (i := 2) sc_law_low.nd rfl (.inl rfl) (pe_ifExp (pt_cmpR op_lt (pv 1) pe_int (nomark _)) (pe_un un_neg (pv 2)) (pv 2)))
      (pss_one (ps_ret (pe_tup (pa_cons (pe_op op_dv (pv 0) (pv 2)) (pa_cons (pe_op op_dv (pv 1) (pv 2)) pa_nil))))))), ?_⟩
    walk_at "rds"
    refine ⟨a, b, rfl, ?_⟩
    have cl : (comI a b).natAbs.log2 < 9000 := Bd.log (k := 8000) (hz.of_le (comI_le hb)) (by decide) (by decide)
    walk_at "rds"
    refine r_ife (fun c => ?_) (fun c => ?_)
    all_goals
      walk_at "rds"
      have e : comI a b = _ := (show comI a b = if b < 0 then -gcdI a b else gcdI a b from rfl)
      first | rw [if_pos (of_decide_eq_true c)] at e | rw [if_neg (of_decide_eq_false c)] at e
      rw [← e]
      refine r_I ⟨comI_ne hb, cl⟩ ?_
      walk_at "rds"
      refine r_I ⟨comI_ne hb, cl⟩ ?_
      walk_at "rds"
      refine r_newT (by simp) fun p hp => ?_
      exact k p hp
theorem ok_law_great (B : Blt mg) {f : Addr} {fd : FuncData} (F : Fun K "_law_great" "_law_great" s_law_great f fd) (c_law_draw : FnAt P w K mg base s_law_draw 1 "_law_draw" ["deck", "many"] spDraw) : FG P w K mg base 2 f fd ["deck", "figures"] spGreat := by
  refine okX F sc_law_great (fun vs H Q E h => ?_) (fun cdv A out s H vs Q E gu hr h => ?_)
  · obtain ⟨d, l, n, rfl, _⟩ := h
    rfl
  · obtain ⟨d, l, n, rfl, hD, hn1, hn2, k⟩ := h
    refine ⟨_, (pss_cons (ps_set (i := 2) sc_law_great.nd rfl (.inl rfl) (pe_op op_add pe_int (pe_c c_law_draw gu (hr.mono (by decide)) (fun σ => passN σ) (pa_cons (pv 0) (pa_cons pe_int pa_nil)))))
      (pss_cons (ps_for (passes_of rfl) rfl (pi_range1 rfl B.range (pa_cons (pe_op op_fdiv (pe_callTy (T := "int") cl_int (by rfl) B.int (by decide +kernel) (pa_cons (pe_op op_sub (pv 1) pe_int) pa_nil)) pe_int) pa_nil)) (pg_name (i := 3) sc_law_great.nd rfl (.inl rfl))
        (pss_one (ps_set (i := 2) sc_law_great.nd rfl (.inl rfl) (pe_op op_add (pe_op op_ml (pv 2) (pe_op op_pow pe_int pe_int)) (pe_c c_law_draw gu (hr.mono (by decide)) (fun σ => passN σ) (pa_cons (pv 0) (pa_cons (pe_op op_pow pe_int pe_int) pa_nil)))))))
      (pss_cons (ps_for (passes_of rfl) rfl (pi_range1 rfl B.range (pa_cons (pe_op op_mod (pe_callTy (T := "int") cl_int (by rfl) B.int (by decide +kernel) (pa_cons (pe_op op_sub (pv 1) pe_int) pa_nil)) pe_int) pa_nil)) (pg_name (i := 3) sc_law_great.nd rfl (.inl rfl))
        (pss_one (ps_set (i := 2) sc_law_great.nd rfl (.inl rfl) (pe_op op_add (pe_op op_ml (pv 2) pe_int) (pe_c c_law_draw gu (hr.mono (by decide)) (fun σ => passN σ) (pa_cons (pv 0) (pa_cons pe_int pa_nil)))))))
      (pss_one (ps_ret (pv 2)))))), ?_⟩
    walk_at "rds"
    have e7 : (10 : Int) ^ (7 : Int).toNat = 10000000 := by decide
    refine ⟨d, l, 9, rfl, hD, by decide, fun r H1 a1 r0 r1 => ?_⟩
    walk_at "rds"
    refine r_I ⟨by decide, by decide⟩ ?_
    walk_at "rds"
    refine r_rk (by omega) (by omega) (r_forR (fun i σ H' => ∃ (x : Int) (y : Option V), σ = [some (.ref d), some (.int n), some (.int x), y] ∧ Adv d l H H' ∧ 0 < x ∧ x < 10 ^ (1 + 7 * i)) ⟨_, _, rfl, a1, by omega, ?_⟩ (fun i σ H' hi h => ?_) fun σ H' h => ?_)
    · show (1 + r : Int) < 10 ^ (1 + 7 * 0)
      rcases r1 with h | h
      · show (1 + r : Int) < 10
        omega
      · show (1 + r : Int) < 10
        omega
    · obtain ⟨x, y, rfl, a, x0, x1⟩ := h
      walk_at "rds"
      refine r_I ⟨by decide, by decide, by decide⟩ ?_
      walk_at "rds"
      rw [e7]
      refine r_I (mul_smallR (by decide) (by decide)) ?_
      walk_at "rds"
      refine r_I ⟨by decide, by decide, by decide⟩ ?_
      walk_at "rds"
      rw [e7]
      refine ⟨d, l, _, rfl, a.ok, by decide, fun r2 H2 a2 s0 s1 => ?_⟩
      walk_at "rds"
      refine ⟨_, _, rfl, a.trans a2, by omega, ?_⟩
      have e : (10 : Int) ^ (1 + 7 * (i + 1)) = 10 ^ (1 + 7 * i) * 10000000 := by
        rw [show 1 + 7 * (i + 1) = (1 + 7 * i) + 7 by omega, Int.pow_add]
        rfl
      rw [e]
      generalize (10 : Int) ^ (1 + 7 * i) = p at x1 ⊢
      omega
    · obtain ⟨x, y, rfl, a, x0, x1⟩ := h
      walk_at "rds"
      refine r_I (by decide) ?_
      walk_at "rds"
      refine r_rk (by omega) (by omega) (r_forR (fun i σ H' => ∃ (x : Int) (y : Option V), σ = [some (.ref d), some (.int n), some (.int x), y] ∧ Adv d l H H' ∧ 0 < x ∧ x < 10 ^ (1 + 7 * ((n - 1) / 7).toNat + i)) ⟨_, _, rfl, a, x0, x1⟩ (fun i σ H' hi h => ?_) fun σ H' h => ?_)
      · obtain ⟨x, y, rfl, a, x0, x1⟩ := h
        walk_at "rds"
        refine r_I (mul_smallR (by decide) (by decide)) ?_
        walk_at "rds"
        refine ⟨d, l, _, rfl, a.ok, by decide, fun r2 H2 a2 s0 s1 => ?_⟩
        walk_at "rds"
        refine ⟨_, _, rfl, a.trans a2, by omega, ?_⟩
        rw [← Nat.add_assoc, Int.pow_succ]
        generalize (10 : Int) ^ (1 + 7 * ((n - 1) / 7).toNat + i) = p at x1 ⊢
        omega
      · obtain ⟨x, y, rfl, a, x0, x1⟩ := h
        walk_at "rds"
        refine k _ _ a x0 ?_
        have e : 1 + 7 * ((n - 1) / 7).toNat + ((n - 1) % 7).toNat = n.toNat := by omega
        rw [e] at x1
        exact x1
theorem ok_lowest (M_gcd : mg "gcd" = some (.builtin "math.gcd")) {CU : Addr} (e_Unfit : ErrC K mg "Unfit" CU) {f : Addr} {fd : FuncData} (F : Fun K "lowest" "lowest" s_lowest f fd) : FG P w K mg base 1 f fd ["a", "b"] (spLowest CU) := by
  refine okX F sc_lowest (fun vs H Q E h => ?_) (fun cdv A out s H vs Q E gu hr h => ?_)
  · obtain ⟨a, b, rfl, _⟩ := h
    rfl
  · obtain ⟨a, b, rfl, hz, kE, k⟩ := h
    refine ⟨_, (pss_cons (ps_if (pt_cmpR op_eq (pv 1) pe_int (nomark _)) (pss_one (ps_raise rfl (takes_of rfl rfl rfl rfl) (pmk_own0 PySem.F.excBase_ValueError e_Unfit.ex e_Unfit.gl e_Unfit.kp (raises_own e_Unfit.sb e_Unfit.ty)))) pss_nil)
      (pss_cons (ps_set (i := 2) sc_lowest.nd rfl (.inl rfl) (pe_callBfun cr_gcd rfl M_gcd (pa_cons (pv 0) (pa_cons (pv 1) pa_nil))))
      (pss_cons (ps_if (pt_cmpR op_lt (pv 1) pe_int (nomark _)) (pss_one (ps_set (i := 2) sc_lowest.nd rfl (.inl rfl) (pe_un un_neg (pv 2)))) pss_nil)
      (pss_one (ps_ret (pe_tup (pa_cons (pe_op op_dv (pv 0) (pv 2)) (pa_cons (pe_op op_dv (pv 1) (pv 2)) pa_nil)))))))), ?_⟩
    walk_at "rds"
    refine r_ifs (fun c => ?_) (fun c => ?_)
    · exact kE (V.int.inj (of_decide_eq_true c))
    · have hb : b ≠ 0 := fun z => absurd (congrArg V.int z) (of_decide_eq_false c)
      have cl : (comI a b).natAbs.log2 < 9000 := Bd.log (k := 8000) (hz.of_le (comI_le hb)) (by decide) (by decide)
      walk_at "rds"
      refine ⟨a, b, rfl, ?_⟩
      walk_at "rds"
      refine r_ifs (fun c => ?_) (fun c => ?_)
      all_goals
        walk_at "rds"
        have e : comI a b = _ := (show comI a b = if b < 0 then -gcdI a b else gcdI a b from rfl)
        first | rw [if_pos (of_decide_eq_true c)] at e | rw [if_neg (of_decide_eq_false c)] at e
        unfold gcdI at e
        rw [← e]
        refine r_I ⟨comI_ne hb, cl⟩ ?_
        walk_at "rds"
        refine r_I ⟨comI_ne hb, cl⟩ ?_
        walk_at "rds"
        refine r_newT (by simp) fun p hp => ?_
        exact k hb p hp
theorem ok_law_int (B : Blt mg) {f : Addr} {fd : FuncData} (F : Fun K "_law_int" "_law_int" s_law_int f fd) (c_law_draw : FnAt P w K mg base s_law_draw 1 "_law_draw" ["deck", "many"] spDraw)
    (c_law_great : FnAt P w K mg base s_law_great 2 "_law_great" ["deck", "figures"] spGreat) (c_law_pick : FnAt P w K mg base s_law_pick 2 "_law_pick" ["deck", "items"] (spPick K)) : FG P w K mg base 3 f fd ["deck"] spSomeInt := by
  refine okX F sc_law_int (fun vs H Q E h => ?_) (fun cdv A out s H vs Q E gu hr h => ?_)
  · obtain ⟨d, l, rfl, _⟩ := h
    rfl
  · obtain ⟨d, l, rfl, hD, k⟩ := h
    refine ⟨_, (pss_cons (ps_set (i := 1) sc_law_int.nd rfl (.inl rfl) (pe_c c_law_draw gu (hr.mono (by decide)) (fun σ => passN σ) (pa_cons (pv 0) (pa_cons pe_int pa_nil))))
      (pss_cons (ps_if (pt_cmpR op_lt (pv 1) pe_int (nomark _)) (pss_one (ps_ret (pe_op op_sub (pe_c c_law_draw gu (hr.mono (by decide)) (fun σ => passN σ) (pa_cons (pv 0) (pa_cons pe_int pa_nil))) pe_int))) pss_nil)
      (pss_cons (ps_if (pt_cmpR op_eq (pv 1) pe_int (nomark _)) (pss_one (ps_ret (pe_op op_sub (pe_c c_law_draw gu (hr.mono (by decide)) (fun σ => passN σ) (pa_cons (pv 0) (pa_cons pe_int pa_nil))) pe_int))) pss_nil)
      (pss_cons (ps_set (i := 2) sc_law_int.nd rfl (.inl rfl) (pe_c c_law_great gu (hr.mono (by decide)) (fun σ => passN σ) (pa_cons (pv 0) (pa_cons (pe_c c_law_pick gu (hr.mono (by decide)) (fun σ => passN σ) (pa_cons (pv 0) (pa_cons (pe_lst (pa_cons pe_int (pa_cons pe_int (pa_cons pe_int (pa_cons pe_int pa_nil))))) pa_nil))) pa_nil))))
      (pss_one (ps_ret (pe_ifExp (pt_cmpR op_gt (pv 1) pe_int (nomark _)) (pv 2) (pe_un un_neg (pv 2))))))))), ?_⟩
    walk_at "rds"
    refine ⟨d, l, _, rfl, hD, by decide, fun r H1 a1 r0 r1 => ?_⟩
    walk_at "rds"
    refine r_ifs (fun c => ?_) (fun c => ?_)
    · walk_at "rds"
      refine ⟨d, l, _, rfl, a1.ok, by decide, fun r2 H2 a2 s0 s1 => ?_⟩
      walk_at "rds"
      exact k _ _ (a1.trans a2) (bd_small (by omega) (by decide))
    · walk_at "rds"
      refine r_ifs (fun c => ?_) (fun c => ?_)
      · walk_at "rds"
        refine ⟨d, l, _, rfl, a1.ok, by decide, fun r2 H2 a2 s0 s1 => ?_⟩
        walk_at "rds"
        exact k _ _ (a1.trans a2) (bd_small (by omega) (by decide))
      · walk_at "rds"
        refine r_newL (by simp) fun p hp => ?_
        have a2 := a1.trans (Adv.new (o := .lst [V.int 9, V.int 20, V.int 45, V.int 110]) a1.ok hp)
        have hpe := a1.ok.ne hp
        walk_at "rds"
        refine ⟨d, l, p, [V.int 9, V.int 20, V.int 45, V.int 110], rfl, a2.ok, SqL.of (by rw [hid_get hpe.1 hpe.2]; exact upd_same), by simp, by simp, fun v H3 a3 hv => ?_⟩
        walk_at "rds"
        have hv' : ∃ n : Int, v = .int n ∧ 1 ≤ n ∧ n ≤ 110 := by
          simp only [List.mem_cons, List.mem_nil_iff, or_false] at hv
          rcases hv with rfl | rfl | rfl | rfl <;> exact ⟨_, rfl, by decide, by decide⟩
        obtain ⟨n, rfl, n1, n2⟩ := hv'
        refine ⟨d, l, n, rfl, a3.ok, n1, by omega, fun g H4 a4 g0 g1 => ?_⟩
        have gb : Bd 366 g := by
          refine ten_bd (n := 110) g0 ?_ (by decide)
          refine Int.lt_of_lt_of_le g1 ?_
          have : (10 ^ n.toNat : Nat) ≤ 10 ^ 110 := Nat.pow_le_pow_right (by decide) (by omega)
          have e : ((10 ^ n.toNat : Nat) : Int) ≤ ((10 ^ 110 : Nat) : Int) := by omega
          rw [Int.natCast_pow, Int.natCast_pow] at e
          exact e
        walk_at "rds"
        refine r_ife (fun c => ?_) (fun c => ?_)
        · walk_at "rds"
          exact k _ _ ((a2.trans a3).trans a4) gb
        · walk_at "rds"
          exact k _ _ ((a2.trans a3).trans a4) gb.neg
theorem ok_law_some (B : Blt mg) {f : Addr} {fd : FuncData} (F : Fun K "_law_some" "_law_some" s_law_some f fd) (c_law_int : FnAt P w K mg base s_law_int 3 "_law_int" ["deck"] spSomeInt)
    (c_law_low : FnAt P w K mg base s_law_low 2 "_law_low" ["a", "b"] spLow) : FG P w K mg base 4 f fd ["deck"] (spSomeFr K) := by
  refine okX F sc_law_some (fun vs H Q E h => ?_) (fun cdv A out s H vs Q E gu hr h => ?_)
  · obtain ⟨d, l, rfl, _⟩ := h
    rfl
  · obtain ⟨d, l, rfl, hD, k⟩ := h
    refine ⟨_, (pss_cons (ps_set (i := 1) sc_law_some.nd rfl (.inl rfl) (pe_c c_law_int gu (hr.mono (by decide)) (fun σ => passN σ) (pa_cons (pv 0) pa_nil)))
      (pss_one (ps_ret (pe_c c_law_low gu (hr.mono (by decide)) (fun σ => passN σ) (pa_cons (pe_c c_law_int gu (hr.mono (by decide)) (fun σ => passN σ) (pa_cons (pv 0) pa_nil)) (pa_cons (pe_ifExp (pt_cmpR op_eq (pv 1) pe_int (nomark _)) pe_int (pv 1)) pa_nil)))))), ?_⟩
    walk_at "rds"
    refine ⟨d, l, rfl, hD, fun b H1 a1 hb => ?_⟩
    walk_at "rds"
    refine ⟨d, l, rfl, a1.ok, fun a H2 a2 ha => ?_⟩
    walk_at "rds"
    have fin : ∀ y : Int, y ≠ 0 → Bd 366 y → spLow [.int a, .int y] H2 Q E0 := fun y hy by' => ⟨a, y, rfl, hy, by'.mono (by decide), fun p hp => by
      have hpe := a2.ok.ne hp
      exact k _ _ _ _ ((a1.trans a2).trans (Adv.new a2.ok hp)) ⟨p, rfl, SqT.of (by rw [hid_get hpe.1 hpe.2]; exact upd_same)⟩ (lowA_bd ha hy) (lowB_bd by' hy) (lowB_pos hy)⟩
    refine r_ife (fun c => ?_) (fun c => ?_)
    · walk_at "rds"
      exact fin 7 (by decide) (bd_small (by decide) (by decide))
    · walk_at "rds"
      refine fin b (fun z => ?_) hb
      subst z
      exact absurd c (by decide)
theorem ok_added {CU : Addr} {f : Addr} {fd : FuncData} (F : Fun K "added" "added" s_added f fd) (c_lowest : FnAt P w K mg base s_lowest 1 "lowest" ["a", "b"] (spLowest CU)) : FG P w K mg base 2 f fd ["one", "other"] (spAdded K) := by
  refine okX F sc_added (fun vs H Q E h => ?_) (fun cdv A out s H vs Q E gu hr h => ?_)
  · obtain ⟨v, u, a, b, c, d, rfl, _⟩ := h
    rfl
  · obtain ⟨v, u, a, b, c, d, rfl, ⟨p, rfl, hp⟩, ⟨q, rfl, hq⟩, ha, hb, hc, hd, b0, d0, k⟩ := h
    refine ⟨_, (pss_one (ps_ret (pe_c c_lowest gu (hr.mono (by decide)) (fun σ => passN σ) (pa_cons (pe_op op_add (pe_op op_ml (pe_ix (r := rIxT K) ix_tup (pv 0) pe_int (fun _ _ => rfl)) (pe_ix (r := rIxT K) ix_tup (pv 1) pe_int (fun _ _ => rfl))) (pe_op op_ml (pe_ix (r := rIxT K) ix_tup (pv 1) pe_int (fun _ _ => rfl)) (pe_ix (r := rIxT K) ix_tup (pv 0) pe_int (fun _ _ => rfl)))) (pa_cons (pe_op op_ml (pe_ix (r := rIxT K) ix_tup (pv 0) pe_int (fun _ _ => rfl)) (pe_ix (r := rIxT K) ix_tup (pv 1) pe_int (fun _ _ => rfl))) pa_nil))))), ?_⟩
    walk_at "rds"
    refine r_ixT hp (atI_nat (j := 0) rfl) ?_
    walk_at "rds"
    refine r_ixT hq (atI_nat (j := 1) rfl) ?_
    walk_at "rds"
    refine r_I (ha.mulOk hd) ?_
    walk_at "rds"
    refine r_ixT hq (atI_nat (j := 0) rfl) ?_
    walk_at "rds"
    refine r_ixT hp (atI_nat (j := 1) rfl) ?_
    walk_at "rds"
    refine r_I (hc.mulOk hb) ?_
    walk_at "rds"
    refine r_ixT hp (atI_nat (j := 1) rfl) ?_
    walk_at "rds"
    refine r_ixT hq (atI_nat (j := 1) rfl) ?_
    walk_at "rds"
    refine r_I (hb.mulOk hd) ?_
    walk_at "rds"
    exact ⟨_, _, rfl, (hb.mul hd).mono (by decide), fun z => absurd z (Int.mul_ne_zero (by omega) (by omega)), fun hn p hp => k p hp⟩
theorem ok_multiplied {CU : Addr} {f : Addr} {fd : FuncData} (F : Fun K "multiplied" "multiplied" s_multiplied f fd) (c_lowest : FnAt P w K mg base s_lowest 1 "lowest" ["a", "b"] (spLowest CU)) : FG P w K mg base 2 f fd ["one", "other"] (spMultiplied K) := by
  refine okX F sc_multiplied (fun vs H Q E h => ?_) (fun cdv A out s H vs Q E gu hr h => ?_)
  · obtain ⟨v, u, a, b, c, d, rfl, _⟩ := h
    rfl
  · obtain ⟨v, u, a, b, c, d, rfl, ⟨p, rfl, hp⟩, ⟨q, rfl, hq⟩, ha, hb, hc, hd, b0, d0, k⟩ := h
    refine ⟨_, (pss_one (ps_ret (pe_c c_lowest gu (hr.mono (by decide)) (fun σ => passN σ) (pa_cons (pe_op op_ml (pe_ix (r := rIxT K) ix_tup (pv 0) pe_int (fun _ _ => rfl)) (pe_ix (r := rIxT K) ix_tup (pv 1) pe_int (fun _ _ => rfl))) (pa_cons (pe_op op_ml (pe_ix (r := rIxT K) ix_tup (pv 0) pe_int (fun _ _ => rfl)) (pe_ix (r := rIxT K) ix_tup (pv 1) pe_int (fun _ _ => rfl))) pa_nil))))), ?_⟩
    walk_at "rds"
    refine r_ixT hp (atI_nat (j := 0) rfl) ?_
    walk_at "rds"
    refine r_ixT hq (atI_nat (j := 0) rfl) ?_
    walk_at "rds"
    refine r_I (ha.mulOk hc) ?_
    walk_at "rds"
    refine r_ixT hp (atI_nat (j := 1) rfl) ?_
    walk_at "rds"
    refine r_ixT hq (atI_nat (j := 1) rfl) ?_
    walk_at "rds"
    refine r_I (hb.mulOk hd) ?_
    walk_at "rds"
    exact ⟨_, _, rfl, (hb.mul hd).mono (by decide), fun z => absurd z (Int.mul_ne_zero (by omega) (by omega)), fun hn p hp => k p hp⟩
theorem ok_divided {CU : Addr} {e_Unfit : ErrC K mg "Unfit" CU} {f : Addr} {fd : FuncData} (F : Fun K "divided" "divided" s_divided f fd) (c_lowest : FnAt P w K mg base s_lowest 1 "lowest" ["a", "b"] (spLowest CU)) : FG P w K mg base 2 f fd ["one", "other"] (spDivided K CU) := by
  refine okX F sc_divided (fun vs H Q E h => ?_) (fun cdv A out s H vs Q E gu hr h => ?_)
  · obtain ⟨v, u, a, b, c, d, rfl, _⟩ := h
    rfl
  · obtain ⟨v, u, a, b, c, d, rfl, ⟨p, rfl, hp⟩, ⟨q, rfl, hq⟩, ha, hb, hc, hd, b0, d0, kE, k⟩ := h
    refine ⟨_, (pss_one (ps_ret (pe_c c_lowest gu (hr.mono (by decide)) (fun σ => passAt (takes_of rfl rfl rfl rfl) σ) (pa_cons (pe_op op_ml (pe_ix (r := rIxT K) ix_tup (pv 0) pe_int (fun _ _ => rfl)) (pe_ix (r := rIxT K) ix_tup (pv 1) pe_int (fun _ _ => rfl))) (pa_cons (pe_op op_ml (pe_ix (r := rIxT K) ix_tup (pv 0) pe_int (fun _ _ => rfl)) (pe_ix (r := rIxT K) ix_tup (pv 1) pe_int (fun _ _ => rfl))) pa_nil))))), ?_⟩
    walk_at "rds"
    refine r_ixT hp (atI_nat (j := 0) rfl) ?_
    walk_at "rds"
    refine r_ixT hq (atI_nat (j := 1) rfl) ?_
    walk_at "rds"
    refine r_I (ha.mulOk hd) ?_
    walk_at "rds"
    refine r_ixT hp (atI_nat (j := 1) rfl) ?_
    walk_at "rds"
    refine r_ixT hq (atI_nat (j := 0) rfl) ?_
    walk_at "rds"
    refine r_I (hb.mulOk hc) ?_
    walk_at "rds"
    refine ⟨_, _, rfl, (hb.mul hc).mono (by decide), fun z => kE ?_, fun hn p hp => k (fun z => hn (by rw [z, Int.mul_zero])) p hp⟩
    rcases Int.mul_eq_zero.mp z with z | z
    · omega
    · exact z
theorem ok_compared {f : Addr} {fd : FuncData} (F : Fun K "compared" "compared" s_compared f fd) : FG P w K mg base 1 f fd ["one", "other"] (spCompared K) := by
  refine okX F sc_compared (fun vs H Q E h => ?_) (fun cdv A out s H vs Q E gu hr h => ?_)
  · obtain ⟨v, u, a, b, c, d, rfl, _⟩ := h
    rfl
  · obtain ⟨v, u, a, b, c, d, rfl, ⟨p, rfl, hp⟩, ⟨q, rfl, hq⟩, ha, hb, hc, hd, k⟩ := h
    refine ⟨_, (pss_cons (ps_set (i := 2) sc_compared.nd rfl (.inl rfl) (pe_op op_ml (pe_ix (r := rIxT K) ix_tup (pv 0) pe_int (fun _ _ => rfl)) (pe_ix (r := rIxT K) ix_tup (pv 1) pe_int (fun _ _ => rfl))))
      (pss_cons (ps_set (i := 3) sc_compared.nd rfl (.inl rfl) (pe_op op_ml (pe_ix (r := rIxT K) ix_tup (pv 1) pe_int (fun _ _ => rfl)) (pe_ix (r := rIxT K) ix_tup (pv 0) pe_int (fun _ _ => rfl))))
      (pss_cons (ps_if (pt_cmpR op_lt (pv 2) (pv 3) (nomark _)) (pss_one (ps_ret (pe_un un_neg pe_int))) pss_nil)
      (pss_cons (ps_if (pt_cmpR op_gt (pv 2) (pv 3) (nomark _)) (pss_one (ps_ret pe_int)) pss_nil)
      (pss_one (ps_ret pe_int)))))), ?_⟩
    walk_at "rds"
    refine r_ixT hp (atI_nat (j := 0) rfl) ?_
    walk_at "rds"
    refine r_ixT hq (atI_nat (j := 1) rfl) ?_
    walk_at "rds"
    refine r_I (ha.mulOk hd) ?_
    walk_at "rds"
    refine r_ixT hq (atI_nat (j := 0) rfl) ?_
    walk_at "rds"
    refine r_ixT hp (atI_nat (j := 1) rfl) ?_
    walk_at "rds"
    refine r_I (hc.mulOk hb) ?_
    walk_at "rds"
    refine r_ifs (fun e => ?_) (fun e => ?_)
    · walk_at "rds"
      have := of_decide_eq_true e
      have z : sideI a b c d = -1 := by unfold sideI; rw [if_neg (by omega), if_pos this]; rfl
      rw [z] at k
      exact k
    · have h1 := of_decide_eq_false e
      walk_at "rds"
      refine r_ifs (fun e2 => ?_) (fun e2 => ?_)
      · walk_at "rds"
        have := of_decide_eq_true e2
        have z : sideI a b c d = 1 := by unfold sideI; rw [if_pos (by omega), if_neg (by omega)]; rfl
        rw [z] at k
        exact k
      · walk_at "rds"
        have h2 := of_decide_eq_false e2
        have z : sideI a b c d = 0 := by unfold sideI; rw [if_neg (by omega), if_neg (by omega)]; rfl
        rw [z] at k
        exact k
theorem ok_law_side (B : Blt mg) {f : Addr} {fd : FuncData} (F : Fun K "_law_side" "_law_side" s_law_side f fd) : FG P w K mg base 1 f fd ["one", "other"] (spCompared K) := by
  refine okX F sc_law_side (fun vs H Q E h => ?_) (fun cdv A out s H vs Q E gu hr h => ?_)
  · obtain ⟨v, u, a, b, c, d, rfl, _⟩ := h
    rfl
  · obtain ⟨v, u, a, b, c, d, rfl, ⟨p, rfl, hp⟩, ⟨q, rfl, hq⟩, ha, hb, hc, hd, k⟩ := h
    refine ⟨_, (pss_cons (ps_par (i := 2) (j := 3) (by rfl) sc_law_side.nd rfl rfl (by decide) rfl rfl (pa_cons (pe_op op_ml (pe_ix (r := rIxT K) ix_tup (pv 0) pe_int (fun _ _ => rfl)) (pe_ix (r := rIxT K) ix_tup (pv 1) pe_int (fun _ _ => rfl))) (pa_cons (pe_op op_ml (pe_ix (r := rIxT K) ix_tup (pv 1) pe_int (fun _ _ => rfl)) (pe_ix (r := rIxT K) ix_tup (pv 0) pe_int (fun _ _ => rfl))) pa_nil)) (by rfl))
      (pss_one (ps_ret (pe_op op_sub (pe_callTy (T := "int") cl_int (by rfl) B.int (by decide +kernel) (pa_cons (pe_cmpR op_gt (pv 2) (pv 3) (nomark _)) pa_nil)) (pe_callTy (T := "int") cl_int (by rfl) B.int (by decide +kernel) (pa_cons (pe_cmpR op_lt (pv 2) (pv 3) (nomark _)) pa_nil)))))), ?_⟩
    walk_at "rds"
    refine r_ixT hp (atI_nat (j := 0) rfl) ?_
    walk_at "rds"
    refine r_ixT hq (atI_nat (j := 1) rfl) ?_
    walk_at "rds"
    refine r_I (ha.mulOk hd) ?_
    walk_at "rds"
    refine r_ixT hq (atI_nat (j := 0) rfl) ?_
    walk_at "rds"
    refine r_ixT hp (atI_nat (j := 1) rfl) ?_
    walk_at "rds"
    refine r_I (hc.mulOk hb) ?_
    walk_at "rds"
    have z : sideI a b c d = (if decide (c * b < a * d) = true then 1 else 0) - (if decide (a * d < c * b) = true then 1 else 0) := by
      unfold sideI
      simp only [decide_eq_true_eq]
    rw [← z]
    exact k
theorem ok_law_told (B : Blt mg) {CU CE : Addr} (e_Unfit : ErrC K mg "Unfit" CU) (e_ChainError : ErrC K mg "ChainError" CE) (x_Unfit : ExcC K CU) (kit : PySem.W.kitOne K (.ref CU) (.ref CE) = some true) (tme : PySem.W.exmOne K (.ref CU) (.ref CU) = some true)
    {f : Addr} {fd : FuncData} (F : Fun K "_law_told" "_law_told" s_law_told f fd) (c_lowest : FnAt P w K mg base s_lowest 1 "lowest" ["a", "b"] (spLowest CU)) (c_added : FnAt P w K mg base s_added 2 "added" ["one", "other"] (spAdded K))
    (c_multiplied : FnAt P w K mg base s_multiplied 2 "multiplied" ["one", "other"] (spMultiplied K)) (c_divided : FnAt P w K mg base s_divided 2 "divided" ["one", "other"] (spDivided K CU)) :
    FG P w K mg base 3 f fd ["word", "one", "other", "is_named"] (spTold K) := by
  refine okX F sc_law_told (fun vs H Q E h => ?_) (fun cdv A out s H vs Q E gu hr h => ?_)
  · obtain ⟨wd, v, u, m, n, nm, rfl, _⟩ := h
    rfl
  · obtain ⟨wd, v, u, m, n, nm, rfl, hn, k⟩ := h
    refine ⟨_, (pss_one (ps_try_as (i := 4) rfl rfl sc_law_told.nd rfl rfl ⟨rfl, by decide, .inl e_Unfit.gl⟩ (takes_of rfl rfl rfl rfl) (fun W pn xe tk po => (pss_cons (ps_if (pt_cmpR op_eq (pv 0) pe_str (nomark _)) (pss_one (ps_ret (pe_lst (pa_cons pe_str (pa_cons (pe_ifExp (pt_val (pv 3)) (pe_ck0 c_lowest kw_lowest_b_a gu (hr.mono (by decide)) (fun σ => passAt tk σ) (pk_cons (pv 2) (pk_cons (pv 1) pk_nil))) (pe_c c_lowest gu (hr.mono (by decide)) (fun σ => passAt tk σ) (pa_cons (pv 1) (pa_cons (pv 2) pa_nil)))) pa_nil))))) pss_nil)
      (pss_cons (ps_if (pt_cmpR op_eq (pv 0) pe_str (nomark _)) (pss_one (ps_ret (pe_lst (pa_cons pe_str (pa_cons (pe_ifExp (pt_val (pv 3)) (pe_ck0 c_added kw_added_other_one gu (hr.mono (by decide)) (fun σ => passAt tk σ) (pk_cons (pv 2) (pk_cons (pv 1) pk_nil))) (pe_c c_added gu (hr.mono (by decide)) (fun σ => passAt tk σ) (pa_cons (pv 1) (pa_cons (pv 2) pa_nil)))) pa_nil))))) pss_nil)
      (pss_cons (ps_if (pt_cmpR op_eq (pv 0) pe_str (nomark _)) (pss_one (ps_ret (pe_lst (pa_cons pe_str (pa_cons (pe_ifExp (pt_val (pv 3)) (pe_ck0 c_multiplied kw_multiplied_other_one gu (hr.mono (by decide)) (fun σ => passAt tk σ) (pk_cons (pv 2) (pk_cons (pv 1) pk_nil))) (pe_c c_multiplied gu (hr.mono (by decide)) (fun σ => passAt tk σ) (pa_cons (pv 1) (pa_cons (pv 2) pa_nil)))) pa_nil))))) pss_nil)
      (pss_one (ps_ret (pe_lst (pa_cons pe_str (pa_cons (pe_ifExp (pt_val (pv 3)) (pe_ck0 c_divided kw_divided_other_one gu (hr.mono (by decide)) (fun σ => passAt tk σ) (pk_cons (pv 2) (pk_cons (pv 1) pk_nil))) (pe_c c_divided gu (hr.mono (by decide)) (fun σ => passAt tk σ) (pa_cons (pv 1) (pa_cons (pv 2) pa_nil)))) pa_nil))))))))) (fun a oe cls d pn hz hf => (pss_one (ps_ret (pe_lst (pa_cons pe_str (pa_cons (pe_callB (call_isE2 x_Unfit hz hf) (by rfl) B.isinstance (by decide +kernel) (pa_cons (pv 4) (pa_cons (pe_glob (v := .ref _) rfl e_ChainError.gl rfl) pa_nil))) pa_nil)))))))), ?_⟩
    have unf : n = 0 → ∀ p, H p = none → Q (.ref p) (upd H p (.lst [.str "unfit", .bl true])) := fun z p hp =>
      k _ _ (same_new hp) (by unfold resD; rw [if_pos z]; exact .lst (SqL.of upd_same) (.cons (.str _) (.cons (.bl _) .nil)))
    have tol : n ≠ 0 → ∀ t p, H t = none → (upd H t (.tup [.int (lowA m n), .int (lowB m n)])) p = none → Q (.ref p) (upd (upd H t (.tup [.int (lowA m n), .int (lowB m n)])) p (.lst [.str "told", .ref t])) := fun z t p ht hp =>
      k _ _ ((same_new ht).trans (same_new hp)) (by
        unfold resD; rw [if_neg z]
        exact .lst (SqL.of upd_same) (.cons (.str _) (.cons (.tup (seqT_same (same_new hp) (SqT.of upd_same)) (.cons (.int _) (.cons (.int _) .nil))) .nil)))
    walk_at "rds"
    rcases hn with ⟨rfl, rfl, rfl, b1, b2⟩ | ⟨a, b, c, d, f1, f2, b1, b2, b3, b4, p1, p2, ⟨rfl, rfl, rfl⟩ | ⟨rfl, rfl, rfl⟩ | ⟨rfl, rfl, rfl⟩⟩
    · refine r_yes (by decide +kernel) ?_
      walk_at "rds"
      refine r_ife (fun e => ?_) (fun e => ?_)
      all_goals
        walk_at "rds"
        refine ⟨m, n, rfl, b2.mono (by decide), fun z => ⟨true, tme, fun _ a ha => ?_, fun y => nomatch y⟩, fun z t ht => ?_⟩
        · walk_at "rds"
          refine r_isE2 rfl rfl kit ?_
          walk_at "rds"
          exact r_newL (by simp) fun p hp => unf z p hp
        · walk_at "rds"
          exact r_newL (by simp) fun p hp => tol z t p ht hp
    · have n0 : b * d ≠ 0 := Int.mul_ne_zero (by omega) (by omega)
      refine r_no (by decide +kernel) ?_
      walk_at "rds"
      refine r_yes (by decide +kernel) ?_
      walk_at "rds"
      refine r_ife (fun e => ?_) (fun e => ?_)
      all_goals
        walk_at "rds"
        refine ⟨_, _, a, b, c, d, rfl, f1, f2, b1.mono (by decide), b2.mono (by decide), b3.mono (by decide), b4.mono (by decide), p1, p2, fun t ht => ?_⟩
        walk_at "rds"
        exact r_newL (by simp) fun p hp => tol n0 t p ht hp
    · have n0 : b * d ≠ 0 := Int.mul_ne_zero (by omega) (by omega)
      refine r_no (by decide +kernel) ?_
      walk_at "rds"
      refine r_no (by decide +kernel) ?_
      walk_at "rds"
      refine r_yes (by decide +kernel) ?_
      walk_at "rds"
      refine r_ife (fun e => ?_) (fun e => ?_)
      all_goals
        walk_at "rds"
        refine ⟨_, _, a, b, c, d, rfl, f1, f2, b1.mono (by decide), b2.mono (by decide), b3.mono (by decide), b4.mono (by decide), p1, p2, fun t ht => ?_⟩
        walk_at "rds"
        exact r_newL (by simp) fun p hp => tol n0 t p ht hp
    · refine r_no (by decide +kernel) ?_
      walk_at "rds"
      refine r_no (by decide +kernel) ?_
      walk_at "rds"
      refine r_no (by decide +kernel) ?_
      walk_at "rds"
      refine r_ife (fun e => ?_) (fun e => ?_)
      all_goals
        walk_at "rds"
        refine ⟨_, _, a, b, c, d, rfl, f1, f2, b1.mono (by decide), b2.mono (by decide), b3.mono (by decide), b4.mono (by decide), p1, p2, fun z => ⟨true, tme, fun _ a ha => ?_, fun y => nomatch y⟩, fun z t ht => ?_⟩
        · walk_at "rds"
          refine r_isE2 rfl rfl kit ?_
          walk_at "rds"
          exact r_newL (by simp) fun p hp => unf (by rw [z, Int.mul_zero]) p hp
        · walk_at "rds"
          exact r_newL (by simp) fun p hp => tol (Int.mul_ne_zero (by omega) z) t p ht hp
theorem ok_law_due (B : Blt mg) {f : Addr} {fd : FuncData} (F : Fun K "_law_due" "_law_due" s_law_due f fd) (c_law_low : FnAt P w K mg base s_law_low 2 "_law_low" ["a", "b"] spLow) :
    FG P w K mg base 3 f fd ["word", "one", "other"] (spDue K) := by
  refine okX F sc_law_due (fun vs H Q E h => ?_) (fun cdv A out s H vs Q E gu hr h => ?_)
  · obtain ⟨wd, v, u, m, n, rfl, _⟩ := h
    rfl
  · obtain ⟨wd, v, u, m, n, rfl, hn, k⟩ := h
    refine ⟨_, (pss_cons (ps_if (pt_cmpR op_eq (pv 0) pe_str (nomark _)) (pss_one (ps_ret (pe_ifExp (pt_cmpR op_eq (pv 2) pe_int (nomark _)) (pe_lst (pa_cons pe_str (pa_cons pe_bl pa_nil))) (pe_lst (pa_cons pe_str (pa_cons (pe_c c_law_low gu (hr.mono (by decide)) (fun σ => passN σ) (pa_cons (pv 1) (pa_cons (pv 2) pa_nil))) pa_nil)))))) pss_nil)
      (pss_cons (ps_asg (pe_tup (pa_cons (pv 1) (pa_cons (pv 2) pa_nil))) (pg_tup rfl (pgs_cons (pg_tup rfl (pgs_cons (pg_name (i := 3) sc_law_due.nd rfl (.inl rfl)) (pgs_cons (pg_name (i := 4) sc_law_due.nd rfl (.inl rfl)) pgs_nil))) (pgs_cons (pg_tup rfl (pgs_cons (pg_name (i := 5) sc_law_due.nd rfl (.inl rfl)) (pgs_cons (pg_name (i := 6) sc_law_due.nd rfl (.inl rfl)) pgs_nil))) pgs_nil))))
      (pss_cons (ps_if (pt_cmpR op_eq (pv 0) pe_str (nomark _)) (pss_one (ps_ret (pe_lst (pa_cons pe_str (pa_cons (pe_c c_law_low gu (hr.mono (by decide)) (fun σ => passN σ) (pa_cons (pe_op op_add (pe_op op_ml (pv 3) (pv 6)) (pe_op op_ml (pv 5) (pv 4))) (pa_cons (pe_op op_ml (pv 4) (pv 6)) pa_nil))) pa_nil))))) pss_nil)
      (pss_cons (ps_if (pt_cmpR op_eq (pv 0) pe_str (nomark _)) (pss_one (ps_ret (pe_lst (pa_cons pe_str (pa_cons (pe_c c_law_low gu (hr.mono (by decide)) (fun σ => passN σ) (pa_cons (pe_op op_ml (pv 3) (pv 5)) (pa_cons (pe_op op_ml (pv 4) (pv 6)) pa_nil))) pa_nil))))) pss_nil)
      (pss_one (ps_ret (pe_ifExp (pt_cmpR op_eq (pv 5) pe_int (nomark _)) (pe_lst (pa_cons pe_str (pa_cons pe_bl pa_nil))) (pe_lst (pa_cons pe_str (pa_cons (pe_c c_law_low gu (hr.mono (by decide)) (fun σ => passN σ) (pa_cons (pe_op op_ml (pv 3) (pv 6)) (pa_cons (pe_op op_ml (pv 4) (pv 5)) pa_nil))) pa_nil)))))))))), ?_⟩
    have unf : n = 0 → ∀ H1, Same H H1 → ∀ p, H1 p = none → Q (.ref p) (upd H1 p (.lst [.str "unfit", .bl true])) := fun z H1 e p hp =>
      k _ _ (e.trans (same_new hp)) (by unfold resD; rw [if_pos z]; exact .lst (SqL.of upd_same) (.cons (.str _) (.cons (.bl _) .nil)))
    have tol : n ≠ 0 → ∀ H1, Same H H1 → ∀ t p, H1 t = none → (upd H1 t (.tup [.int (lowA m n), .int (lowB m n)])) p = none → Q (.ref p) (upd (upd H1 t (.tup [.int (lowA m n), .int (lowB m n)])) p (.lst [.str "told", .ref t])) := fun z H1 e t p ht hp =>
      k _ _ ((e.trans (same_new ht)).trans (same_new hp)) (by
        unfold resD; rw [if_neg z]
        exact .lst (SqL.of upd_same) (.cons (.str _) (.cons (.tup (seqT_same (same_new hp) (SqT.of upd_same)) (.cons (.int _) (.cons (.int _) .nil))) .nil)))
    walk_at "rds"
    rcases hn with ⟨rfl, rfl, rfl, b1, b2⟩ | ⟨a, b, c, d, ⟨p, rfl, f1⟩, ⟨q, rfl, f2⟩, b1, b2, b3, b4, p1, p2, hw⟩
    · refine r_yes (by decide +kernel) ?_
      walk_at "rds"
      refine r_ife (fun e => ?_) (fun e => ?_)
      · have z : n = 0 := V.int.inj (of_decide_eq_true e)
        walk_at "rds"
        exact r_newL (by simp) fun p hp => unf z H (Same.refl _) p hp
      · have z : n ≠ 0 := fun y => absurd (congrArg V.int y) (of_decide_eq_false e)
        walk_at "rds"
        refine ⟨m, n, rfl, z, b2.mono (by decide), fun t ht => ?_⟩
        walk_at "rds"
        exact r_newL (by simp) fun p hp => tol z H (Same.refl _) t p ht hp
    · have wl : wd ≠ "lowest" := by
        rcases hw with ⟨rfl, _⟩ | ⟨rfl, _⟩ | ⟨rfl, _⟩ <;> decide +kernel
      refine r_no (decide_eq_false fun e => wl (V.str.inj e)) ?_
      walk_at "rds"
      refine r_newT (by simp) fun t ht => ?_
      have e1 := same_new (o := .tup [V.ref p, V.ref q]) ht
      refine r_gtup (SqT.of upd_same) rfl ?_
      refine r_gcons ?_
      refine r_gtup (seqT_same e1 f1) rfl ?_
      walk_at "rds"
      refine r_gtup (seqT_same e1 f2) rfl ?_
      walk_at "rds"
      rcases hw with ⟨rfl, rfl, rfl⟩ | ⟨rfl, rfl, rfl⟩ | ⟨rfl, rfl, rfl⟩
      · have n0 : b * d ≠ 0 := Int.mul_ne_zero (by omega) (by omega)
        refine r_yes (by decide +kernel) ?_
        walk_at "rds"
        refine r_I (b1.mulOk b4) ?_
        walk_at "rds"
        refine r_I (b3.mulOk b2) ?_
        walk_at "rds"
        refine r_I (b2.mulOk b4) ?_
        walk_at "rds"
        refine ⟨_, _, rfl, n0, (b2.mul b4).mono (by decide), fun t2 ht2 => ?_⟩
        walk_at "rds"
        exact r_newL (by simp) fun p hp => tol n0 _ e1 t2 p ht2 hp
      · have n0 : b * d ≠ 0 := Int.mul_ne_zero (by omega) (by omega)
        refine r_no (by decide +kernel) ?_
        walk_at "rds"
        refine r_yes (by decide +kernel) ?_
        walk_at "rds"
        refine r_I (b1.mulOk b3) ?_
        walk_at "rds"
        refine r_I (b2.mulOk b4) ?_
        walk_at "rds"
        refine ⟨_, _, rfl, n0, (b2.mul b4).mono (by decide), fun t2 ht2 => ?_⟩
        walk_at "rds"
        exact r_newL (by simp) fun p hp => tol n0 _ e1 t2 p ht2 hp
      · refine r_no (by decide +kernel) ?_
        walk_at "rds"
        refine r_no (by decide +kernel) ?_
        walk_at "rds"
        refine r_ife (fun e => ?_) (fun e => ?_)
        · have z : c = 0 := V.int.inj (of_decide_eq_true e)
          walk_at "rds"
          exact r_newL (by simp) fun p hp => unf (by rw [z, Int.mul_zero]) _ e1 p hp
        · have z : c ≠ 0 := fun y => absurd (congrArg V.int y) (of_decide_eq_false e)
          have n0 : b * c ≠ 0 := Int.mul_ne_zero (by omega) z
          walk_at "rds"
          refine r_I (b1.mulOk b4) ?_
          walk_at "rds"
          refine r_I (b2.mulOk b3) ?_
          walk_at "rds"
          refine ⟨_, _, rfl, n0, (b2.mul b3).mono (by decide), fun t2 ht2 => ?_⟩
          walk_at "rds"
          exact r_newL (by simp) fun p hp => tol n0 _ e1 t2 p ht2 hp
theorem ok_law (B : Blt mg) {CU : Addr} {f : Addr} {fd : FuncData} (F : Fun K "law" "law" s_law f fd) (c_law_deck : FnAt P w K mg base s_law_deck 1 "_law_deck" ["script"] (spDeck K)) (c_law_int : FnAt P w K mg base s_law_int 3 "_law_int" ["deck"] spSomeInt)
    (c_law_pick : FnAt P w K mg base s_law_pick 2 "_law_pick" ["deck", "items"] (spPick K)) (c_law_due : FnAt P w K mg base s_law_due 3 "_law_due" ["word", "one", "other"] (spDue K)) (c_law_told : FnAt P w K mg base s_law_told 3 "_law_told" ["word", "one", "other", "is_named"] (spTold K))
    (c_law_some : FnAt P w K mg base s_law_some 4 "_law_some" ["deck"] (spSomeFr K)) (c_law_low : FnAt P w K mg base s_law_low 2 "_law_low" ["a", "b"] spLow) (c_compared : FnAt P w K mg base s_compared 1 "compared" ["one", "other"] (spCompared K))
    (c_law_side : FnAt P w K mg base s_law_side 1 "_law_side" ["one", "other"] (spCompared K)) : FG P w K mg base 5 f fd ["script"] (spLaw K) := by
  refine okX F sc_law (fun vs H Q E h => ?_) (fun cdv A out s H vs Q E gu hr h => ?_)
  · obtain ⟨a, ns, rfl, _⟩ := h
    rfl
  · obtain ⟨a, ns, rfl, hS, hlen, k⟩ := h
    refine ⟨_, (pss_cons (ps_set (i := 1) sc_law.nd rfl (.inl rfl) (pe_c c_law_deck gu (hr.mono (by decide)) (fun σ => passN σ) (pa_cons (pv 0) pa_nil)))
      (pss_cons (ps_for (passes_of rfl) rfl (pi_range1 rfl B.range (pa_cons pe_int pa_nil)) (pg_name (i := 2) sc_law.nd rfl (.inl rfl))
        (pss_cons (ps_par3 (i := 3) (j := 4) (l := 5) (by rfl) sc_law.nd rfl rfl rfl (by decide) (by decide) (by decide) rfl rfl rfl (pa_cons (pe_c c_law_int gu (hr.mono (by decide)) (fun σ => passN σ) (pa_cons (pv 1) pa_nil)) (pa_cons (pe_c c_law_int gu (hr.mono (by decide)) (fun σ => passN σ) (pa_cons (pv 1) pa_nil)) (pa_cons (pe_c c_law_pick gu (hr.mono (by decide)) (fun σ => passN σ) (pa_cons (pv 1) (pa_cons (pe_lst (pa_cons pe_int (pa_cons pe_int (pa_cons pe_int (pa_cons (pe_un un_neg pe_int) (pa_cons pe_int (pa_cons pe_int (pa_cons (pe_c c_law_int gu (hr.mono (by decide)) (fun σ => passN σ) (pa_cons (pv 1) pa_nil)) pa_nil)))))))) pa_nil))) pa_nil))) (by rfl))
      (pss_cons (ps_set (i := 6) sc_law.nd rfl (.inl rfl) (pe_callB (r := rRepr K) (call_repr gu hr.units) (by rfl) B.repr (by decide +kernel) (pa_cons (pe_c c_law_due gu (hr.mono (by decide)) (fun σ => passN σ) (pa_cons pe_str (pa_cons (pe_op op_ml (pv 3) (pv 5)) (pa_cons (pe_op op_ml (pv 4) (pv 5)) pa_nil)))) pa_nil)))
      (pss_one (ps_if (pt_cmpR op_ne (pe_callB (r := rRepr K) (call_repr gu hr.units) (by rfl) B.repr (by decide +kernel) (pa_cons (pe_c c_law_told gu (hr.mono (by decide)) (fun σ => passN σ) (pa_cons pe_str (pa_cons (pe_op op_ml (pv 3) (pv 5)) (pa_cons (pe_op op_ml (pv 4) (pv 5)) (pa_cons (pe_cmpR op_eq (pv 2) pe_int (nomark _)) pa_nil))))) pa_nil)) (pv 6) (nomark _)) (pss_one (ps_ret pe_bl)) pss_nil)))))
      (pss_cons (ps_for (passes_of rfl) rfl (pi_range1 rfl B.range (pa_cons pe_int pa_nil)) (pg_name (i := 2) sc_law.nd rfl (.inl rfl))
        (pss_cons (ps_set (i := 7) sc_law.nd rfl (.inl rfl) (pe_c c_law_some gu (hr.mono (by decide)) (fun σ => passN σ) (pa_cons (pv 1) pa_nil)))
      (pss_cons (ps_set (i := 8) sc_law.nd rfl (.inl rfl) (pe_c c_law_low gu (hr.mono (by decide)) (fun σ => passN σ) (pa_cons (pe_ix (r := rIxT K) ix_tup (pv 7) pe_int (fun _ _ => rfl)) (pa_cons (pe_ifExp (pt_cmpR op_eq (pe_ix (r := rIxT K) ix_tup (pv 7) pe_int (fun _ _ => rfl)) pe_int (nomark _)) pe_int (pe_ix (r := rIxT K) ix_tup (pv 7) pe_int (fun _ _ => rfl))) pa_nil))))
      (pss_cons (ps_set (i := 9) sc_law.nd rfl (.inl rfl) (pe_c c_law_pick gu (hr.mono (by decide)) (fun σ => passN σ) (pa_cons (pv 1) (pa_cons (pe_lst (pa_cons (pe_c c_law_some gu (hr.mono (by decide)) (fun σ => passN σ) (pa_cons (pv 1) pa_nil)) (pa_cons (pe_c c_law_some gu (hr.mono (by decide)) (fun σ => passN σ) (pa_cons (pv 1) pa_nil)) (pa_cons (pv 7) (pa_cons (pe_tup (pa_cons (pe_un un_neg (pe_ix (r := rIxT K) ix_tup (pv 7) pe_int (fun _ _ => rfl))) (pa_cons (pe_ix (r := rIxT K) ix_tup (pv 7) pe_int (fun _ _ => rfl)) pa_nil))) (pa_cons (pv 8) (pa_cons (pe_tup (pa_cons pe_int (pa_cons pe_int pa_nil))) pa_nil))))))) pa_nil))))
      (pss_cons (ps_for (passes_of rfl) rfl (pi_tup (pe_tup (pa_cons pe_str (pa_cons pe_str (pa_cons pe_str pa_nil))))) (pg_name (i := 10) sc_law.nd rfl (.inl rfl))
        (pss_cons (ps_set (i := 6) sc_law.nd rfl (.inl rfl) (pe_callB (r := rRepr K) (call_repr gu hr.units) (by rfl) B.repr (by decide +kernel) (pa_cons (pe_c c_law_due gu (hr.mono (by decide)) (fun σ => passN σ) (pa_cons (pv 10) (pa_cons (pv 7) (pa_cons (pv 9) pa_nil)))) pa_nil)))
      (pss_one (ps_if (PW.pt (pw_or (pt_cmpR op_ne (pe_callB (r := rRepr K) (call_repr gu hr.units) (by rfl) B.repr (by decide +kernel) (pa_cons (pe_c c_law_told gu (hr.mono (by decide)) (fun σ => passN σ) (pa_cons (pv 10) (pa_cons (pv 7) (pa_cons (pv 9) (pa_cons (pe_cmpR op_eq (pv 2) pe_int (nomark _)) pa_nil))))) pa_nil)) (pv 6) (nomark _)) (pw_or1 (pt_cmpR op_ne (pe_callB (r := rRepr K) (call_repr gu hr.units) (by rfl) B.repr (by decide +kernel) (pa_cons (pe_c c_law_told gu (hr.mono (by decide)) (fun σ => passN σ) (pa_cons (pv 10) (pa_cons (pv 7) (pa_cons (pv 9) (pa_cons pe_bl pa_nil))))) pa_nil)) (pv 6) (nomark _))))) (pss_one (ps_ret pe_bl)) pss_nil))))
      (pss_cons (ps_set (i := 11) sc_law.nd rfl (.inl rfl) (pe_lst (pa_cons (pe_c c_compared gu (hr.mono (by decide)) (fun σ => passN σ) (pa_cons (pv 7) (pa_cons (pv 9) pa_nil))) (pa_cons (pe_ck0 c_compared kw_compared_other_one gu (hr.mono (by decide)) (fun σ => passN σ) (pk_cons (pv 7) (pk_cons (pv 9) pk_nil))) (pa_cons (pe_c c_compared gu (hr.mono (by decide)) (fun σ => passN σ) (pa_cons (pv 7) (pa_cons (pv 7) pa_nil))) pa_nil)))))
      (pss_one (ps_if (pt_cmpR op_ne (pe_callB (r := rRepr K) (call_repr gu hr.units) (by rfl) B.repr (by decide +kernel) (pa_cons (pv 11) pa_nil)) (pe_callB (r := rRepr K) (call_repr gu hr.units) (by rfl) B.repr (by decide +kernel) (pa_cons (pe_lst (pa_cons (pe_c c_law_side gu (hr.mono (by decide)) (fun σ => passN σ) (pa_cons (pv 7) (pa_cons (pv 9) pa_nil))) (pa_cons (pe_c c_law_side gu (hr.mono (by decide)) (fun σ => passN σ) (pa_cons (pv 9) (pa_cons (pv 7) pa_nil))) (pa_cons pe_int pa_nil)))) pa_nil)) (nomark _)) (pss_one (ps_ret pe_bl)) pss_nil))))))))
      (pss_one (ps_ret pe_bl))))), ?_⟩
    walk_at "rds"
    refine ⟨a, ns, rfl, hS, hlen, fun d l H0 hd0 hl0 s0 hD => ?_⟩
    walk_at "rds"
    refine r_rk (by decide) (by decide) (r_forR (fun i σ H' => ∃ y2 y3 y4 y5 y6, σ = [some (.ref a), some (.ref d), y2, y3, y4, y5, y6, none, none, none, none, none] ∧ Adv d l H0 H') ⟨_, _, _, _, _, rfl, .refl hD⟩ (fun i σ H' hi h => ?_) fun σ H' h => ?_)
    · obtain ⟨y2, y3, y4, y5, y6, rfl, a0⟩ := h
      walk_at "rds"
      refine ⟨d, l, rfl, a0.ok, fun x H1 a1 bx => ?_⟩
      walk_at "rds"
      refine ⟨d, l, rfl, a1.ok, fun y H2 a2 by' => ?_⟩
      walk_at "rds"
      refine ⟨d, l, rfl, a2.ok, fun z H3 a3 bz => ?_⟩
      walk_at "rds"
      refine r_newL (by simp) fun p hp => ?_
      have hpe := a3.ok.ne hp
      have a4 := Adv.new (o := .lst [V.int 1, V.int 1, V.int 2, V.int (-3), V.int 12, V.int 0, V.int z]) a3.ok hp
      walk_at "rds"
      refine ⟨d, l, p, _, rfl, a4.ok, SqL.of (by rw [hid_get hpe.1 hpe.2]; exact upd_same), by simp, by simp, fun v H5 a5 hv => ?_⟩
      have hv' : ∃ n : Int, v = .int n ∧ Bd 366 n := by
        simp only [List.mem_cons, List.mem_nil_iff, or_false] at hv
        rcases hv with rfl | rfl | rfl | rfl | rfl | rfl | rfl
        all_goals first | exact ⟨_, rfl, bz⟩ | exact ⟨_, rfl, bd_small (by decide) (by decide)⟩
      obtain ⟨n, rfl, bn⟩ := hv'
      have a05 := (((a0.trans a1).trans a2).trans a3).trans (a4.trans a5)
      have hN : ∀ H', Num K H' "lowest" (.int (x * n)) (.int (y * n)) (x * n) (y * n) := fun H' => .inl ⟨rfl, rfl, rfl, (bx.mul bn).mono (by decide), (by'.mul bn).mono (by decide)⟩
      have hF := fit_resD (num_bd (hN H5)).1 (num_bd (hN H5)).2
      walk_at "rds"
      refine r_I (bx.mulOk bn) ?_
      walk_at "rds"
      refine r_I (by'.mulOk bn) ?_
      walk_at "rds"
      refine ⟨_, _, _, _, _, rfl, hN H5, fun r H6 s6 d6 => ?_⟩
      walk_at "rds"
      refine r_repr d6 hF ?_
      walk_at "rds"
      refine r_I (bx.mulOk bn) ?_
      walk_at "rds"
      refine r_I (by'.mulOk bn) ?_
      walk_at "rds"
      refine ⟨_, _, _, _, _, _, rfl, hN H6, fun r2 H7 s7 d7 => ?_⟩
      walk_at "rds"
      refine r_repr d7 hF ?_
      walk_at "rds"
      refine r_no (by simp) ?_
      walk_at "rds"
      exact ⟨_, _, _, _, _, rfl, a05.trans ((Adv.same a05.ok s6).trans (Adv.same (a05.ok.up s6) s7))⟩
    · obtain ⟨y2, y3, y4, y5, y6, rfl, a0⟩ := h
      walk_at "rds"
      refine r_rk (by decide) (by decide) (r_forR (fun i σ H' => ∃ y2 y6 y7 y8 y9 y10 y11, σ = [some (.ref a), some (.ref d), y2, y3, y4, y5, y6, y7, y8, y9, y10, y11] ∧ Adv d l H0 H') ⟨_, _, _, _, _, _, _, rfl, a0⟩ (fun i σ H' hi h => ?_) fun σ H' h => ?_)
      · obtain ⟨y2, y6, y7, y8, y9, y10, y11, rfl, a0⟩ := h
        walk_at "rds"
        refine ⟨d, l, rfl, a0.ok, fun v1 x y H1 a1 f1 bx by' y0 => ?_⟩
        walk_at "rds"
        obtain ⟨p1, rfl, t1⟩ := id f1
        refine r_ixT (seqT_same hid_sub t1) (atI_nat (j := 1) rfl) ?_
        walk_at "rds"
        refine r_ixT (seqT_same hid_sub t1) (atI_nat (j := 0) rfl) ?_
        walk_at "rds"
        -- the value below in about
        have hz : ∃ z : Int, z ≠ 0 ∧ Bd 366 z ∧ z = (if x = 0 then 3 else x) := by
          by_cases e : x = 0
          · exact ⟨3, by decide, bd_small (by decide) (by decide), (if_pos e).symm⟩
          · exact ⟨x, e, bx, (if_neg e).symm⟩
        obtain ⟨z, z0, bz, ez⟩ := hz
        have go : ∀ (σ' : L2.St) (S : Hp → Prop), (∀ v2 H2, Adv d l H1 H2 → FrOk K (hid d l H2) v2 → S H2) → True := fun _ _ _ => trivial
        have step : ∀ (S : VK), (∀ p, H1 p = none → S (.ref p) (upd H1 p (.tup [.int (lowA y z), .int (lowB y z)]))) → spLow [.int y, .int z] H1 S E0 := fun S h => ⟨y, z, rfl, z0, bz.mono (by decide), h⟩
        have fin : ∀ p2, H1 p2 = none → FrOk K (hid d l (upd H1 p2 (.tup [.int (lowA y z), .int (lowB y z)]))) (.ref p2) := fun p2 hp2 => by
          have hpe := a1.ok.ne hp2
          exact ⟨_, _, ⟨p2, rfl, SqT.of (by rw [hid_get hpe.1 hpe.2]; exact upd_same)⟩, lowA_bd by' z0, lowB_bd bz z0, lowB_pos z0⟩
        refine r_ife (fun e => ?_) (fun e => ?_)
        all_goals
          walk_at "rds"
          have ez2 : z = _ := ez
          first
            | rw [if_pos (V.int.inj (of_decide_eq_true e))] at ez2
            | rw [if_neg (fun w => absurd (congrArg V.int w) (of_decide_eq_false e))] at ez2
          try refine r_ixT (seqT_same hid_sub t1) (atI_nat (j := 0) rfl) ?_
          walk_at "rds"
          rw [← ez2]
          refine step _ fun p2 hp2 => ?_
          have F2 := fin p2 hp2
          have a2 := Adv.new (o := .tup [.int (lowA y z), .int (lowB y z)]) a1.ok hp2
          generalize upd H1 p2 (.tup [.int (lowA y z), .int (lowB y z)]) = H2 at F2 a2 ⊢
          walk_at "rds"
          refine ⟨d, l, rfl, a2.ok, fun v3 x3 y3' H3 a3 f3 b31 b32 b33 => ?_⟩
          walk_at "rds"
          refine ⟨d, l, rfl, a3.ok, fun v4 x4 y4' H4 a4 f4 b41 b42 b43 => ?_⟩
          walk_at "rds"
          have f14 := (((f1.up a2.st).up a3.st).up a4.st)
          obtain ⟨p1', e1', t14⟩ := id f14
          cases e1'
          refine r_ixT (seqT_same hid_sub t14) (atI_nat (j := 0) rfl) ?_
          walk_at "rds"
          refine r_ixT (seqT_same hid_sub t14) (atI_nat (j := 1) rfl) ?_
          walk_at "rds"
          refine r_newT (by simp) fun p5 hp5 => ?_
          have hpe5 := a4.ok.ne hp5
          have a5 := Adv.new (o := .tup [V.int (-x), V.int y]) a4.ok hp5
          have F5 : FrOk K (hid d l (upd H4 p5 (.tup [V.int (-x), V.int y]))) (.ref p5) := ⟨_, _, ⟨p5, rfl, SqT.of (by rw [hid_get hpe5.1 hpe5.2]; exact upd_same)⟩, bx.neg, by', y0⟩
          generalize upd H4 p5 (.tup [V.int (-x), V.int y]) = H5 at F5 a5 ⊢
          walk_at "rds"
          refine r_newT (by simp) fun p6 hp6 => ?_
          have hpe6 := a5.ok.ne hp6
          have a6 := Adv.new (o := .tup [V.int 0, V.int 1]) a5.ok hp6
          have F6 : FrOk K (hid d l (upd H5 p6 (.tup [V.int 0, V.int 1]))) (.ref p6) := ⟨_, _, ⟨p6, rfl, SqT.of (by rw [hid_get hpe6.1 hpe6.2]; exact upd_same)⟩, bd_small (by decide) (by decide), bd_small (by decide) (by decide), by decide⟩
          generalize upd H5 p6 (.tup [V.int 0, V.int 1]) = H6 at F6 a6 ⊢
          walk_at "rds"
          refine r_newL (by simp) fun p7 hp7 => ?_
          have hpe7 := a6.ok.ne hp7
          have a7 := Adv.new (o := .lst [v3, v4, V.ref p1, V.ref p5, V.ref p2, V.ref p6]) a6.ok hp7
          have s7 : SqL K (hid d l (upd H6 p7 (.lst [v3, v4, V.ref p1, V.ref p5, V.ref p2, V.ref p6]))) p7 [v3, v4, V.ref p1, V.ref p5, V.ref p2, V.ref p6] := SqL.of (by rw [hid_get hpe7.1 hpe7.2]; exact upd_same)
          generalize upd H6 p7 (.lst [v3, v4, V.ref p1, V.ref p5, V.ref p2, V.ref p6]) = H7 at s7 a7 ⊢
          walk_at "rds"
          refine ⟨d, l, p7, _, rfl, a7.ok, s7, by simp, by simp, fun v8 H8 a8 hv => ?_⟩
          have t78 := a7.st.trans a8.st
          have F8 : FrOk K (hid d l H8) v8 := by
            simp only [List.mem_cons, List.mem_nil_iff, or_false] at hv
            have t68 := a6.st.trans t78
            have t58 := a5.st.trans t68
            have t48 := a4.st.trans t58
            rcases hv with rfl | rfl | rfl | rfl | rfl | rfl
            · exact FrOk.up t48 ⟨_, _, f3, b31, b32, b33⟩
            · exact FrOk.up t58 ⟨_, _, f4, b41, b42, b43⟩
            · exact FrOk.up t58 ⟨_, _, f14, bx, by', y0⟩
            · exact FrOk.up t68 F5
            · exact FrOk.up (a3.st.trans t48) F2
            · exact FrOk.up t78 F6
          have g1 : FrV K H8 (.ref p1) x y := (f14.up ((a5.st.trans (a6.st.trans t78)))).up hid_sub
          have a08 : Adv d l H0 H8 := (((((((a0.trans a1).trans a2).trans a3).trans a4).trans a5).trans a6).trans a7).trans a8
          obtain ⟨c8, d8, g8, b81, b82, b83⟩ := F8
          have g8 := g8.up hid_sub
          clear F2 a1 a2 a3 a4 a5 a6 a7 a8 t78 f14 t14 s7 F5 F6 f3 f4 hp7 hp6 hp5 hp2 hpe5 hpe6 hpe7 step fin f1 t1 hv
          walk_at "rds"
          refine r_newT (by simp) fun p9 hp9 => ?_
          have s9 := same_new (o := .tup [V.str "added", V.str "multiplied", V.str "divided"]) hp9
          have t9 : SqT K (upd H8 p9 (.tup [V.str "added", V.str "multiplied", V.str "divided"])) p9 [V.str "added", V.str "multiplied", V.str "divided"] := SqT.of upd_same
          generalize upd H8 p9 (.tup [V.str "added", V.str "multiplied", V.str "divided"]) = H9 at s9 t9 ⊢
          refine r_tk t9 (r_forT (xs := [V.str "added", V.str "multiplied", V.str "divided"]) (fun _ σ' H' => ∃ z6 z10, σ' = [some (.ref a), some (.ref d), some (.int (0 + i)), y3, y4, y5, z6, some (.ref p1), some (.ref p2), some v8, z10, y11] ∧ Same H9 H') ⟨_, _, rfl, Same.refl _⟩ (fun j σ' H' _ h => ?_) (fun j w' σ' H' hj h => ?_) fun σ' H' h => ?_)
          · obtain ⟨_, _, _, e⟩ := h
            exact seqT_same e t9
          · obtain ⟨z6, z10, rfl, e⟩ := h
            have hw : ∃ wd : Str, w' = .str wd ∧ (wd = "added" ∨ wd = "multiplied" ∨ wd = "divided") := by
              have := List.mem_of_getElem? hj
              simp only [List.mem_cons, List.mem_nil_iff, or_false] at this
              rcases this with rfl | rfl | rfl
              · exact ⟨_, rfl, .inl rfl⟩
              · exact ⟨_, rfl, .inr (.inl rfl)⟩
              · exact ⟨_, rfl, .inr (.inr rfl)⟩
            obtain ⟨wd, rfl, hw⟩ := hw
            have hN : ∃ m n, Num K H' wd (.ref p1) v8 m n := by
              have q1 := (g1.up s9).up e
              have q2 := (g8.up s9).up e
              have mk : ∀ m n, ((wd = "added" ∧ m = x * d8 + c8 * y ∧ n = y * d8) ∨ (wd = "multiplied" ∧ m = x * c8 ∧ n = y * d8) ∨ (wd = "divided" ∧ m = x * d8 ∧ n = y * c8)) → Num K H' wd (.ref p1) v8 m n := fun m n h =>
                .inr ⟨x, y, c8, d8, q1, q2, bx.mono (by decide), by'.mono (by decide), b81.mono (by decide), b82.mono (by decide), y0, b83, h⟩
              rcases hw with rfl | rfl | rfl
              · exact ⟨_, _, mk _ _ (.inl ⟨rfl, rfl, rfl⟩)⟩
              · exact ⟨_, _, mk _ _ (.inr (.inl ⟨rfl, rfl, rfl⟩))⟩
              · exact ⟨_, _, mk _ _ (.inr (.inr ⟨rfl, rfl, rfl⟩))⟩
            obtain ⟨m, n, hN⟩ := hN
            have hF := fit_resD (num_bd hN).1 (num_bd hN).2
            walk_at "rds"
            refine ⟨_, _, _, m, n, rfl, hN, fun r1 K1 s1 d1 => ?_⟩
            walk_at "rds"
            refine r_repr d1 hF ?_
            walk_at "rds"
            refine ⟨_, _, _, m, n, _, rfl, hN.up s1, fun r2 K2 s2 d2 => ?_⟩
            walk_at "rds"
            refine r_repr d2 hF ?_
            walk_at "rds"
            refine r_ork (fun e => absurd e (by simp)) (fun _ => ?_)
            walk_at "rds"
            refine ⟨_, _, _, m, n, _, rfl, (hN.up s1).up s2, fun r3 K3 s3 d3 => ?_⟩
            walk_at "rds"
            refine r_repr d3 hF ?_
            walk_at "rds"
            refine r_no (by simp) ?_
            walk_at "rds"
            exact ⟨_, _, rfl, e.trans (s1.trans (s2.trans s3))⟩
          · obtain ⟨z6, z10, rfl, e⟩ := h
            have q1 := (g1.up s9).up e
            have q2 := (g8.up s9).up e
            have B2 : ∀ {x : Int}, Bd 366 x → Bd 2000 x := fun h => h.mono (by decide)
            walk_at "rds"
            refine ⟨_, _, _, _, _, _, rfl, q1, q2, B2 bx, B2 by', B2 b81, B2 b82, ?_⟩
            walk_at "rds"
            refine ⟨_, _, _, _, _, _, rfl, q2, q1, B2 b81, B2 b82, B2 bx, B2 by', ?_⟩
            walk_at "rds"
            refine ⟨_, _, _, _, _, _, rfl, q1, q1, B2 bx, B2 by', B2 bx, B2 by', ?_⟩
            rw [side_same]
            walk_at "rds"
            refine r_newL (by simp) fun p10 hp10 => ?_
            have s10 := same_new (o := .lst [V.int (sideI x y c8 d8), V.int (sideI c8 d8 x y), V.int 0]) hp10
            have hD10 : Dp K (upd H' p10 (.lst [V.int (sideI x y c8 d8), V.int (sideI c8 d8 x y), V.int 0])) (.ref p10) (.list [.int (sideI x y c8 d8), .int (sideI c8 d8 x y), .int 0]) := .lst (SqL.of upd_same) (.cons (.int _) (.cons (.int _) (.cons (.int _) .nil)))
            generalize upd H' p10 (.lst [V.int (sideI x y c8 d8), V.int (sideI c8 d8 x y), V.int 0]) = H10 at s10 hD10 ⊢
            have hF := side_fit (sideI x y c8 d8) (sideI c8 d8 x y) 0 (side_le _ _ _ _) (side_le _ _ _ _) (by decide)
            walk_at "rds"
            refine r_repr hD10 hF ?_
            walk_at "rds"
            refine ⟨_, _, _, _, _, _, rfl, q1.up s10, q2.up s10, B2 bx, B2 by', B2 b81, B2 b82, ?_⟩
            walk_at "rds"
            refine ⟨_, _, _, _, _, _, rfl, q2.up s10, q1.up s10, B2 b81, B2 b82, B2 bx, B2 by', ?_⟩
            walk_at "rds"
            refine r_newL (by simp) fun p11 hp11 => ?_
            have s11 := same_new (o := .lst [V.int (sideI x y c8 d8), V.int (sideI c8 d8 x y), V.int 0]) hp11
            walk_at "rds"
            refine r_repr (.lst (SqL.of upd_same) (.cons (.int _) (.cons (.int _) (.cons (.int _) .nil)))) hF ?_
            walk_at "rds"
            refine r_no (by simp) ?_
            walk_at "rds"
            exact ⟨_, _, _, _, _, _, _, rfl, a08.trans (.same a08.ok ((s9.trans e).trans (s10.trans s11)))⟩
      · obtain ⟨y2, y6, y7, y8, y9, y10, y11, rfl, a0⟩ := h
        walk_at "rds"
        exact k _
end
theorem all_mk {l : PySem.W.OpenLaw} {w : World} {K : PySem.W.Frag} {h : Heap} {mg : Str → Option Value} {fa CU CE : Addr} (X : K.In h) (G : h.Ns mainGlobals mg) (hfa : mg "law" = some (.ref fa))
    {f1 f2 f3 f4 f5 f6 f7 f8 f9 f10 f11 f12 f13 f14 f15 f16 f17 : Addr}
    {od1 od2 od3 od4 od5 od6 od7 od8 od9 od10 od11 od12 od13 od14 od15 od16 od17 an1 an2 an3 an4 an5 an6 an7 an8 an9 an10 an11 an12 an13 an14 an15 an16 an17 : Option Addr} {sl1 sl2 sl3 sl4 sl5 sl6 sl7 sl8 sl9 sl10 sl11 sl12 sl13 sl14 sl15 sl16 sl17 : Array (Option Value)} {oc1 oc2 oc3 oc4 oc5 oc6 oc7 oc8 oc9 oc10 oc11 oc12 oc13 oc14 oc15 oc16 oc17 kV1 kV2 kV3 kV4 kV5 kV6 kV7 kV8 kV9 kV10 kV11 kV12 kV13 kV14 kV15 kV16 kV17 dc1 dc2 dc3 dc4 dc5 dc6 dc7 dc8 dc9 dc10 dc11 dc12 dc13 dc14 dc15 dc16 dc17 pm1 pm2 pm3 pm4 pm5 pm6 pm7 pm8 pm9 pm10 pm11 pm12 pm13 pm14 pm15 pm16 pm17 cd1 cd2 cd3 cd4 cd5 cd6 cd7 cd8 cd9 cd10 cd11 cd12 cd13 cd14 cd15 cd16 cd17 ct1 ct2 ct3 ct4 ct5 ct6 ct7 ct8 ct9 ct10 ct11 ct12 ct13 ct14 ct15 ct16 ct17 : Value}
    (a1 : PySem.W.nsIn K mainGlobals "lowest" = some (some (.ref f1))) (l1 : K.lookup f1 = some ⟨oc1, od1, .func (PySem.W.fnOf "lowest" "lowest" (defArgs s_lowest) (defBody s_lowest) (defScope s_lowest) .none kV1 dc1 pm1 an1 cd1 ct1), sl1⟩) (c1 : PySem.W.codeIn K cd1 "lowest" = true) (k1 : PySem.W.keepIn K (.ref f1) = true)
    (a2 : PySem.W.nsIn K mainGlobals "added" = some (some (.ref f2))) (l2 : K.lookup f2 = some ⟨oc2, od2, .func (PySem.W.fnOf "added" "added" (defArgs s_added) (defBody s_added) (defScope s_added) .none kV2 dc2 pm2 an2 cd2 ct2), sl2⟩) (c2 : PySem.W.codeIn K cd2 "added" = true) (k2 : PySem.W.keepIn K (.ref f2) = true)
    (a3 : PySem.W.nsIn K mainGlobals "multiplied" = some (some (.ref f3))) (l3 : K.lookup f3 = some ⟨oc3, od3, .func (PySem.W.fnOf "multiplied" "multiplied" (defArgs s_multiplied) (defBody s_multiplied) (defScope s_multiplied) .none kV3 dc3 pm3 an3 cd3 ct3), sl3⟩) (c3 : PySem.W.codeIn K cd3 "multiplied" = true) (k3 : PySem.W.keepIn K (.ref f3) = true)
    (a4 : PySem.W.nsIn K mainGlobals "divided" = some (some (.ref f4))) (l4 : K.lookup f4 = some ⟨oc4, od4, .func (PySem.W.fnOf "divided" "divided" (defArgs s_divided) (defBody s_divided) (defScope s_divided) .none kV4 dc4 pm4 an4 cd4 ct4), sl4⟩) (c4 : PySem.W.codeIn K cd4 "divided" = true) (k4 : PySem.W.keepIn K (.ref f4) = true)
    (a5 : PySem.W.nsIn K mainGlobals "compared" = some (some (.ref f5))) (l5 : K.lookup f5 = some ⟨oc5, od5, .func (PySem.W.fnOf "compared" "compared" (defArgs s_compared) (defBody s_compared) (defScope s_compared) .none kV5 dc5 pm5 an5 cd5 ct5), sl5⟩) (c5 : PySem.W.codeIn K cd5 "compared" = true) (k5 : PySem.W.keepIn K (.ref f5) = true)
    (a6 : PySem.W.nsIn K mainGlobals "_law_deck" = some (some (.ref f6))) (l6 : K.lookup f6 = some ⟨oc6, od6, .func (PySem.W.fnOf "_law_deck" "_law_deck" (defArgs s_law_deck) (defBody s_law_deck) (defScope s_law_deck) .none kV6 dc6 pm6 an6 cd6 ct6), sl6⟩) (c6 : PySem.W.codeIn K cd6 "_law_deck" = true) (k6 : PySem.W.keepIn K (.ref f6) = true)
    (a7 : PySem.W.nsIn K mainGlobals "_law_draw" = some (some (.ref f7))) (l7 : K.lookup f7 = some ⟨oc7, od7, .func (PySem.W.fnOf "_law_draw" "_law_draw" (defArgs s_law_draw) (defBody s_law_draw) (defScope s_law_draw) .none kV7 dc7 pm7 an7 cd7 ct7), sl7⟩) (c7 : PySem.W.codeIn K cd7 "_law_draw" = true) (k7 : PySem.W.keepIn K (.ref f7) = true)
    (a8 : PySem.W.nsIn K mainGlobals "_law_pick" = some (some (.ref f8))) (l8 : K.lookup f8 = some ⟨oc8, od8, .func (PySem.W.fnOf "_law_pick" "_law_pick" (defArgs s_law_pick) (defBody s_law_pick) (defScope s_law_pick) .none kV8 dc8 pm8 an8 cd8 ct8), sl8⟩) (c8 : PySem.W.codeIn K cd8 "_law_pick" = true) (k8 : PySem.W.keepIn K (.ref f8) = true)
    (a9 : PySem.W.nsIn K mainGlobals "_law_gcd" = some (some (.ref f9))) (l9 : K.lookup f9 = some ⟨oc9, od9, .func (PySem.W.fnOf "_law_gcd" "_law_gcd" (defArgs s_law_gcd) (defBody s_law_gcd) (defScope s_law_gcd) .none kV9 dc9 pm9 an9 cd9 ct9), sl9⟩) (c9 : PySem.W.codeIn K cd9 "_law_gcd" = true) (k9 : PySem.W.keepIn K (.ref f9) = true)
    (a10 : PySem.W.nsIn K mainGlobals "_law_low" = some (some (.ref f10))) (l10 : K.lookup f10 = some ⟨oc10, od10, .func (PySem.W.fnOf "_law_low" "_law_low" (defArgs s_law_low) (defBody s_law_low) (defScope s_law_low) .none kV10 dc10 pm10 an10 cd10 ct10), sl10⟩) (c10 : PySem.W.codeIn K cd10 "_law_low" = true) (k10 : PySem.W.keepIn K (.ref f10) = true)
    (a11 : PySem.W.nsIn K mainGlobals "_law_great" = some (some (.ref f11))) (l11 : K.lookup f11 = some ⟨oc11, od11, .func (PySem.W.fnOf "_law_great" "_law_great" (defArgs s_law_great) (defBody s_law_great) (defScope s_law_great) .none kV11 dc11 pm11 an11 cd11 ct11), sl11⟩) (c11 : PySem.W.codeIn K cd11 "_law_great" = true) (k11 : PySem.W.keepIn K (.ref f11) = true)
    (a12 : PySem.W.nsIn K mainGlobals "_law_int" = some (some (.ref f12))) (l12 : K.lookup f12 = some ⟨oc12, od12, .func (PySem.W.fnOf "_law_int" "_law_int" (defArgs s_law_int) (defBody s_law_int) (defScope s_law_int) .none kV12 dc12 pm12 an12 cd12 ct12), sl12⟩) (c12 : PySem.W.codeIn K cd12 "_law_int" = true) (k12 : PySem.W.keepIn K (.ref f12) = true)
    (a13 : PySem.W.nsIn K mainGlobals "_law_some" = some (some (.ref f13))) (l13 : K.lookup f13 = some ⟨oc13, od13, .func (PySem.W.fnOf "_law_some" "_law_some" (defArgs s_law_some) (defBody s_law_some) (defScope s_law_some) .none kV13 dc13 pm13 an13 cd13 ct13), sl13⟩) (c13 : PySem.W.codeIn K cd13 "_law_some" = true) (k13 : PySem.W.keepIn K (.ref f13) = true)
    (a14 : PySem.W.nsIn K mainGlobals "_law_told" = some (some (.ref f14))) (l14 : K.lookup f14 = some ⟨oc14, od14, .func (PySem.W.fnOf "_law_told" "_law_told" (defArgs s_law_told) (defBody s_law_told) (defScope s_law_told) .none kV14 dc14 pm14 an14 cd14 ct14), sl14⟩) (c14 : PySem.W.codeIn K cd14 "_law_told" = true) (k14 : PySem.W.keepIn K (.ref f14) = true)
    (a15 : PySem.W.nsIn K mainGlobals "_law_due" = some (some (.ref f15))) (l15 : K.lookup f15 = some ⟨oc15, od15, .func (PySem.W.fnOf "_law_due" "_law_due" (defArgs s_law_due) (defBody s_law_due) (defScope s_law_due) .none kV15 dc15 pm15 an15 cd15 ct15), sl15⟩) (c15 : PySem.W.codeIn K cd15 "_law_due" = true) (k15 : PySem.W.keepIn K (.ref f15) = true)
    (a16 : PySem.W.nsIn K mainGlobals "_law_side" = some (some (.ref f16))) (l16 : K.lookup f16 = some ⟨oc16, od16, .func (PySem.W.fnOf "_law_side" "_law_side" (defArgs s_law_side) (defBody s_law_side) (defScope s_law_side) .none kV16 dc16 pm16 an16 cd16 ct16), sl16⟩) (c16 : PySem.W.codeIn K cd16 "_law_side" = true) (k16 : PySem.W.keepIn K (.ref f16) = true)
    (a17 : PySem.W.nsIn K mainGlobals "law" = some (some (.ref f17))) (l17 : K.lookup f17 = some ⟨oc17, od17, .func (PySem.W.fnOf "law" "law" (defArgs s_law) (defBody s_law) (defScope s_law) .none kV17 dc17 pm17 an17 cd17 ct17), sl17⟩) (c17 : PySem.W.codeIn K cd17 "law" = true) (k17 : PySem.W.keepIn K (.ref f17) = true)
    (z1 : PySem.W.nsIn K mainGlobals "abs" = some none) (z2 : PySem.W.nsIn K mainGlobals "int" = some none) (z3 : PySem.W.nsIn K mainGlobals "len" = some none) (z4 : PySem.W.nsIn K mainGlobals "range" = some none) (z5 : PySem.W.nsIn K mainGlobals "repr" = some none) (z6 : PySem.W.nsIn K mainGlobals "isinstance" = some none) (z7 : PySem.W.nsIn K mainGlobals "tuple" = some none) (z8 : PySem.W.nsIn K mainGlobals "list" = some none) (z9 : PySem.W.nsIn K mainGlobals "str" = some none) (z10 : PySem.W.nsIn K mainGlobals "sum" = some none) (z11 : PySem.W.nsIn K mainGlobals "all" = some none) (z12 : PySem.W.nsIn K mainGlobals "any" = some none) (z13 : PySem.W.nsIn K mainGlobals "zip" = some none) (z14 : PySem.W.nsIn K mainGlobals "enumerate" = some none) (z15 : PySem.W.nsIn K mainGlobals "sorted" = some none) (z16 : PySem.W.nsIn K mainGlobals "reversed" = some none) (z17 : PySem.W.nsIn K mainGlobals "bool" = some none) (z18 : PySem.W.nsIn K mainGlobals "dict" = some none) (z19 : PySem.W.nsIn K mainGlobals "max" = some none) (z20 : PySem.W.nsIn K mainGlobals "min" = some none) (z21 : PySem.W.nsIn K mainGlobals "ord" = some none) (z22 : PySem.W.nsIn K mainGlobals "chr" = some none) (z23 : PySem.W.nsIn K mainGlobals "divmod" = some none) (z24 : PySem.W.nsIn K mainGlobals "set" = some none)
    (agc : PySem.W.nsIn K mainGlobals "gcd" = some (some (.builtin "math.gcd")))
    (aU : PySem.W.nsIn K mainGlobals "Unfit" = some (some (.ref CU))) (aE : PySem.W.nsIn K mainGlobals "ChainError" = some (some (.ref CE)))
    (u1 : PySem.W.excIn K CU [.type "ValueError", .type "Exception", .type "BaseException", .type "object"] "ValueError.__new__" = true) (u2 : PySem.W.keepIn K (.ref CU) = true) (u3 : PySem.W.subIn K (.ref CU) (.type "BaseException") = some true) (u4 : PySem.W.typeIn K (.ref CU) = some (.type "type"))
    (v1 : PySem.W.excIn K CE [.type "ValueError", .type "Exception", .type "BaseException", .type "object"] "ValueError.__new__" = true) (v2 : PySem.W.keepIn K (.ref CE) = true) (v3 : PySem.W.subIn K (.ref CE) (.type "BaseException") = some true) (v4 : PySem.W.typeIn K (.ref CE) = some (.type "type"))
    (x1 : PySem.W.findIn K (.ref CU) "__getattribute__" = some (some (.builtin "BaseException.__getattribute__"))) (x2 : PySem.W.findIn K (.ref CU) "__getattr__" = some none) (x4 : PySem.W.hasDictIn K CU = true) (x5 : PySem.W.findIn K (.ref CU) "__class__" = some (some (.builtin "object.__class__")))
    (x6 : PySem.W.specialIn K (.builtin "object.__class__") "__get__" = some (some (.builtin "getset_descriptor.__get__"))) (x7 : PySem.W.takesIn K (.builtin "object.__class__") = some true) (x8 : PySem.W.mroIn K CU (.type "object") = some true)
    (kit : PySem.W.kitOne K (.ref CU) (.ref CE) = some true) (sUU : PySem.W.subIn K (.ref CU) (.ref CU) = some true) :
    ∃ fd : FuncData, (∀ (s : Shared) (v : Value), BindsTo s fd ⟨[v], []⟩ [("script", v)]) ∧ ∀ base : Heap, K.In base → base.Ns mainGlobals mg → FG l.prog w K mg base 5 fa fd ["script"] (spLaw K) := by
  have e := hfa.symm.trans (PySem.W.mg_of X G a17)
  cases e
  have F_lowest := fun_mk (st := s_lowest) l1 c1 k1
  have m_lowest := PySem.W.mg_of X G a1
  have b_lowest := F_lowest.binds (ps := ["a", "b"]) fun _ _ _ _ _ _ us hl => match us, hl with | [_, _], _ => rfl
  have F_added := fun_mk (st := s_added) l2 c2 k2
  have m_added := PySem.W.mg_of X G a2
  have b_added := F_added.binds (ps := ["one", "other"]) fun _ _ _ _ _ _ us hl => match us, hl with | [_, _], _ => rfl
  have F_multiplied := fun_mk (st := s_multiplied) l3 c3 k3
  have m_multiplied := PySem.W.mg_of X G a3
  have b_multiplied := F_multiplied.binds (ps := ["one", "other"]) fun _ _ _ _ _ _ us hl => match us, hl with | [_, _], _ => rfl
  have F_divided := fun_mk (st := s_divided) l4 c4 k4
  have m_divided := PySem.W.mg_of X G a4
  have b_divided := F_divided.binds (ps := ["one", "other"]) fun _ _ _ _ _ _ us hl => match us, hl with | [_, _], _ => rfl
  have F_compared := fun_mk (st := s_compared) l5 c5 k5
  have m_compared := PySem.W.mg_of X G a5
  have b_compared := F_compared.binds (ps := ["one", "other"]) fun _ _ _ _ _ _ us hl => match us, hl with | [_, _], _ => rfl
  have F_law_deck := fun_mk (st := s_law_deck) l6 c6 k6
  have m_law_deck := PySem.W.mg_of X G a6
  have b_law_deck := F_law_deck.binds (ps := ["script"]) fun _ _ _ _ _ _ us hl => match us, hl with | [_], _ => rfl
  have F_law_draw := fun_mk (st := s_law_draw) l7 c7 k7
  have m_law_draw := PySem.W.mg_of X G a7
  have b_law_draw := F_law_draw.binds (ps := ["deck", "many"]) fun _ _ _ _ _ _ us hl => match us, hl with | [_, _], _ => rfl
  have F_law_pick := fun_mk (st := s_law_pick) l8 c8 k8
  have m_law_pick := PySem.W.mg_of X G a8
  have b_law_pick := F_law_pick.binds (ps := ["deck", "items"]) fun _ _ _ _ _ _ us hl => match us, hl with | [_, _], _ => rfl
  have F_law_gcd := fun_mk (st := s_law_gcd) l9 c9 k9
  have m_law_gcd := PySem.W.mg_of X G a9
  have b_law_gcd := F_law_gcd.binds (ps := ["a", "b"]) fun _ _ _ _ _ _ us hl => match us, hl with | [_, _], _ => rfl
  have F_law_low := fun_mk (st := s_law_low) l10 c10 k10
  have m_law_low := PySem.W.mg_of X G a10
  have b_law_low := F_law_low.binds (ps := ["a", "b"]) fun _ _ _ _ _ _ us hl => match us, hl with | [_, _], _ => rfl
  have F_law_great := fun_mk (st := s_law_great) l11 c11 k11
  have m_law_great := PySem.W.mg_of X G a11
  have b_law_great := F_law_great.binds (ps := ["deck", "figures"]) fun _ _ _ _ _ _ us hl => match us, hl with | [_, _], _ => rfl
  have F_law_int := fun_mk (st := s_law_int) l12 c12 k12
  have m_law_int := PySem.W.mg_of X G a12
  have b_law_int := F_law_int.binds (ps := ["deck"]) fun _ _ _ _ _ _ us hl => match us, hl with | [_], _ => rfl
  have F_law_some := fun_mk (st := s_law_some) l13 c13 k13
  have m_law_some := PySem.W.mg_of X G a13
  have b_law_some := F_law_some.binds (ps := ["deck"]) fun _ _ _ _ _ _ us hl => match us, hl with | [_], _ => rfl
  have F_law_told := fun_mk (st := s_law_told) l14 c14 k14
  have m_law_told := PySem.W.mg_of X G a14
  have b_law_told := F_law_told.binds (ps := ["word", "one", "other", "is_named"]) fun _ _ _ _ _ _ us hl => match us, hl with | [_, _, _, _], _ => rfl
  have F_law_due := fun_mk (st := s_law_due) l15 c15 k15
  have m_law_due := PySem.W.mg_of X G a15
  have b_law_due := F_law_due.binds (ps := ["word", "one", "other"]) fun _ _ _ _ _ _ us hl => match us, hl with | [_, _, _], _ => rfl
  have F_law_side := fun_mk (st := s_law_side) l16 c16 k16
  have m_law_side := PySem.W.mg_of X G a16
  have b_law_side := F_law_side.binds (ps := ["one", "other"]) fun _ _ _ _ _ _ us hl => match us, hl with | [_, _], _ => rfl
  have F_law := fun_mk (st := s_law) l17 c17 k17
  have m_law := PySem.W.mg_of X G a17
  have b_law := F_law.binds (ps := ["script"]) fun _ _ _ _ _ _ us hl => match us, hl with | [_], _ => rfl
  have B := blt_mk X G z1 z2 z3 z4 z5 z6 z7 z8 z9 z10 z11 z12 z13 z14 z15 z16 z17 z18 z19 z20 z21 z22 z23 z24
  have eU : ErrC K mg "Unfit" CU := ⟨u1, PySem.W.mg_of X G aU, u2, u3, u4⟩
  have eE : ErrC K mg "ChainError" CE := ⟨v1, PySem.W.mg_of X G aE, v2, v3, v4⟩
  have xU : ExcC K CU := ⟨x1, x2, u3, x4, x5, x6, x7, x8⟩
  have tme := PySem.W.exm_ref (cls := .ref CU) u3 x4 u4 sUU
  have main : ∀ base : Heap, K.In base → base.Ns mainGlobals mg → FG l.prog w K mg base 5 fa (PySem.W.fnOf "law" "law" (defArgs s_law) (defBody s_law) (defScope s_law) .none kV17 dc17 pm17 an17 cd17 ct17) ["script"] (spLaw K) := by
    intro base KB GB
    have g := PySem.W.mg_of X G agc
    have cw := FnAt.mk' (base := base) (P := l.prog) (w := w) F_law_draw (ok_law_draw B F_law_draw) m_law_draw b_law_draw
    have cp := FnAt.mk' (base := base) (P := l.prog) (w := w) F_law_pick (ok_law_pick B F_law_pick cw) m_law_pick b_law_pick
    have cd := FnAt.mk' (base := base) (P := l.prog) (w := w) F_law_deck (ok_law_deck B F_law_deck) m_law_deck b_law_deck
    have cg := FnAt.mk' (base := base) (P := l.prog) (w := w) F_law_gcd (ok_law_gcd B F_law_gcd) m_law_gcd b_law_gcd
    have cl := FnAt.mk' (base := base) (P := l.prog) (w := w) F_law_low (ok_law_low B F_law_low cg) m_law_low b_law_low
    have cr := FnAt.mk' (base := base) (P := l.prog) (w := w) F_law_great (ok_law_great B F_law_great cw) m_law_great b_law_great
    have ci := FnAt.mk' (base := base) (P := l.prog) (w := w) F_law_int (ok_law_int B F_law_int cw cr cp) m_law_int b_law_int
    have cs := FnAt.mk' (base := base) (P := l.prog) (w := w) F_law_some (ok_law_some B F_law_some ci cl) m_law_some b_law_some
    have c1 := FnAt.mk' (base := base) (P := l.prog) (w := w) F_lowest (ok_lowest g eU F_lowest) m_lowest b_lowest
    have c2 := FnAt.mk' (base := base) (P := l.prog) (w := w) F_added (ok_added F_added c1) m_added b_added
    have c3 := FnAt.mk' (base := base) (P := l.prog) (w := w) F_multiplied (ok_multiplied F_multiplied c1) m_multiplied b_multiplied
    have c4 := FnAt.mk' (base := base) (P := l.prog) (w := w) F_divided (ok_divided (e_Unfit := eU) F_divided c1) m_divided b_divided
    have c5 := FnAt.mk' (base := base) (P := l.prog) (w := w) F_compared (ok_compared F_compared) m_compared b_compared
    have c6 := FnAt.mk' (base := base) (P := l.prog) (w := w) F_law_told (ok_law_told B eU eE xU kit tme F_law_told c1 c2 c3 c4) m_law_told b_law_told
    have c7 := FnAt.mk' (base := base) (P := l.prog) (w := w) F_law_due (ok_law_due B F_law_due cl) m_law_due b_law_due
    have c8 := FnAt.mk' (base := base) (P := l.prog) (w := w) F_law_side (ok_law_side B F_law_side) m_law_side b_law_side
    exact ok_law (CU := CU) B F_law cd ci cp c7 c6 cs cl c5 c8
  refine ⟨_, ?_, main⟩
  exact fun s v => .of_eq rfl
end VK
open PySem PySem.W PyProof.Rows
set_option maxHeartbeats 0 in
theorem PySem.Challenge.cw_veiledchains_k01_whole_fractions_beside_holds : PySem.Challenge.rw_veiledchains_k01_whole_fractions_beside.Holds := by
  w_on; o_law; k_head; (case hw => w_witness2)
  k_fill
  refine VB.walkG (l := PySem.Challenge.rw_veiledchains_k01_whole_fractions_beside) (n := 63) (k := 5) (x := "script") (sp := VB.spLaw) rfl (by decide) rfl ⟨rfl, by decide, by decide⟩ (fun w h Y => PySem.W.kIn_of Y) ?F (fun K H a ns hl _ hS => ⟨a, ns, rfl, hS, hl, fun _ => rfl⟩)
  case F =>
    intro w mg fa h KX G hmg
    refine' VK.all_mk KX G hmg ?a1 ?l1 ?c1 ?k1 ?a2 ?l2 ?c2 ?k2 ?a3 ?l3 ?c3 ?k3 ?a4 ?l4 ?c4 ?k4 ?a5 ?l5 ?c5 ?k5 ?a6 ?l6 ?c6 ?k6 ?a7 ?l7 ?c7 ?k7 ?a8 ?l8 ?c8 ?k8 ?a9 ?l9 ?c9 ?k9 ?a10 ?l10 ?c10 ?k10 ?a11 ?l11 ?c11 ?k11 ?a12 ?l12 ?c12 ?k12 ?a13 ?l13 ?c13 ?k13 ?a14 ?l14 ?c14 ?k14 ?a15 ?l15 ?c15 ?k15 ?a16 ?l16 ?c16 ?k16 ?a17 ?l17 ?c17 ?k17 ?z1 ?z2 ?z3 ?z4 ?z5 ?z6 ?z7 ?z8 ?z9 ?z10 ?z11 ?z12 ?z13 ?z14 ?z15 ?z16 ?z17 ?z18 ?z19 ?z20 ?z21 ?z22 ?z23 ?z24 ?agc ?aU ?aE ?u1 ?u2 ?u3 ?u4 ?v1 ?v2 ?v3 ?v4 ?x1 ?x2 ?x4 ?x5 ?x6 ?x7 ?x8 ?kit ?sUU
    (case a1 => k_is); (case l1 => k_is); (case c1 => k_is); (case k1 => k_is); (case a2 => k_is); (case l2 => k_is); (case c2 => k_is); (case k2 => k_is); (case a3 => k_is); (case l3 => k_is); (case c3 => k_is); (case k3 => k_is); (case a4 => k_is); (case l4 => k_is); (case c4 => k_is); (case k4 => k_is); (case a5 => k_is); (case l5 => k_is); (case c5 => k_is); (case k5 => k_is); (case a6 => k_is); (case l6 => k_is); (case c6 => k_is); (case k6 => k_is); (case a7 => k_is); (case l7 => k_is); (case c7 => k_is); (case k7 => k_is); (case a8 => k_is); (case l8 => k_is); (case c8 => k_is); (case k8 => k_is); (case a9 => k_is); (case l9 => k_is); (case c9 => k_is); (case k9 => k_is); (case a10 => k_is); (case l10 => k_is); (case c10 => k_is); (case k10 => k_is); (case a11 => k_is); (case l11 => k_is); (case c11 => k_is); (case k11 => k_is); (case a12 => k_is); (case l12 => k_is); (case c12 => k_is); (case k12 => k_is); (case a13 => k_is); (case l13 => k_is); (case c13 => k_is); (case k13 => k_is); (case a14 => k_is); (case l14 => k_is); (case c14 => k_is); (case k14 => k_is); (case a15 => k_is); (case l15 => k_is); (case c15 => k_is); (case k15 => k_is); (case a16 => k_is); (case l16 => k_is); (case c16 => k_is); (case k16 => k_is); (case a17 => k_is); (case l17 => k_is); (case c17 => k_is); (case k17 => k_is)
    (case aU => k_is); (case aE => k_is); (case agc => k_is)
    (case z1 => k_is); (case z2 => k_is); (case z3 => k_is); (case z4 => k_is); (case z5 => k_is); (case z6 => k_is); (case z7 => k_is); (case z8 => k_is); (case z9 => k_is); (case z10 => k_is); (case z11 => k_is); (case z12 => k_is); (case z13 => k_is); (case z14 => k_is); (case z15 => k_is); (case z16 => k_is); (case z17 => k_is); (case z18 => k_is); (case z19 => k_is); (case z20 => k_is); (case z21 => k_is); (case z22 => k_is); (case z23 => k_is); (case z24 => k_is)
    (case u1 => k_exc); (case u2 => k_is); (case u3 => k_is); (case u4 => k_is)
    (case v1 => k_exc); (case v2 => k_is); (case v3 => k_is); (case v4 => k_is)
    (case x1 => k_is); (case x2 => k_is); (case x4 => k_is); (case x5 => k_is); (case x6 => k_is); (case x7 => k_is); (case x8 => k_is)
    (case kit => kit_is); (case sUU => k_is)
#print axioms PySem.Challenge.cw_veiledchains_k01_whole_fractions_beside_holds
