import PyProof.Rows.All
import Wide.All
import OpenK.AllK
import Wide.FinOn
import PyProof.EqAt
import PyProof.EqKinds
import PyProof.TupleCall
import HandS.Base
import HandS.Call
import HandS.List
import HandS.Comp
import HandS.Ends
import HandS.Words
import PyProof.ReprRoads
import HandS.Dict
import HandS.Iter
import HandS.Text
import HandS.WordsList
import HandS.Conv
import HandS.IsInst
import HandS.Gcd
import HandS.Wide
import HandS.Defaults
import HandS.Rev
import HandS.Walk
import KE.GoesEnum
import HandS.TupAny
import HandS.Flow
import HandS.Style
import PySem.Challenge.RW_hullrests_k36_whole_common_factors
set_option Elab.async false
set_option linter.all false
set_option maxRecDepth 100000
namespace Ur
open PySem L2

def nums (a b c : Int) : List V := [.int a, .int b, .int c]
structure Bd (a b c : Int) : Prop where
  a0 : 0 ≤ a
  b0 : 0 ≤ b
  b1 : b < 4294967296
  c0 : 0 ≤ c
  c1 : c < 4294967296
/-- an urn: a list of three numbers within bounds, whichever -/
def UrnO (u : Addr) : HO := .ext fun h => ∃ (a b c : Int) (its : List Value) (n : Nat), Bd a b c ∧ Vals (nums a b c) its ∧ h.get? u = some { cls := .type "list", data := .seq its.toArray n }

section
variable {X : Cx} {pins : List (Addr × Obj)} {σ : L2.St} {H : Hp} {s : Shared} {u : Addr}
theorem urnOpen (I : Inv X pins σ H s) (h : H u = some (UrnO u)) : ∃ a b c, Bd a b c ∧ Inv X pins σ (upd H u (.lst (nums a b c))) s := by
  obtain ⟨⟨a, b, c, its, n, B, r, e⟩, _⟩ := I.hok u _ h
  refine ⟨a, b, c, B, I.write (x := u) (e := u) (t' := s.toks) (h' := s.heap) (by rw [h]; exact trivial) (.inl rfl) (fun b v _ q => q) ⟨_, e⟩ ?_⟩
  exact ⟨by show 3 ≤ sizeLine; decide, its, n, r, e⟩
theorem urnShut {a b c : Int} (I : Inv X pins σ H s) (h : H u = some (.lst (nums a b c))) (B : Bd a b c) : Inv X pins σ (upd H u (UrnO u)) s := by
  obtain ⟨_, its, n, r, e⟩ := I.hok u _ h
  refine I.write (x := u) (e := u) (t' := s.toks) (h' := s.heap) (by rw [h]; exact trivial) (.inl rfl) (fun b v _ q => q) ⟨_, e⟩ ?_
  exact ⟨⟨a, b, c, its, n, B, r, e⟩, ⟨_, e⟩, fun h1 h2 ⟨a, b, c, its, n, B, r, e⟩ k => ⟨a, b, c, its, n, B, r, k _ e⟩⟩
end
theorem upd_back {H : Hp} {u : Addr} {o p : HO} (h : H u = some o) : upd (upd H u p) u o = H := by
  funext b
  by_cases e : b = u
  · rw [e, upd_same, h]
  · rw [upd_ne e, upd_ne e]

def Shut (u : Addr) (Q : Hp → Prop) (H : Hp) : Prop := ∃ a b c, Bd a b c ∧ H u = some (.lst (nums a b c)) ∧ Q (upd H u (UrnO u))
/-- the statements run while the urn is seen as a list -/
def tUrn (t : TS) : TS := fun D σ H => ∃ u, H u = some (UrnO u) ∧ ∀ a b c, Bd a b c → t ⟨fun σ' H' => Shut u (D.nx σ') H', fun v H' => Shut u (D.rt v) H', fun σ' H' => Shut u (D.bk σ') H', fun σ' H' => Shut u (D.ct σ') H'⟩ σ (upd H u (.lst (nums a b c)))
def tShut (t : TE) : TE := fun σ H Q => t σ H fun v H1 => ∃ u, v = .ref u ∧ Shut u (Q v) H1
section
variable {X : Cx}
theorem pss_urn {sts : List Stmt} {t : TS} (h : PSs X sts t) : PSs X sts (tUrn t) := by
  refine ⟨fun pins s
        σ H D I hw => ?_⟩
  obtain ⟨u, hu, hw⟩ := hw
  obtain ⟨a, b, c, B, I1⟩ := urnOpen I hu
  refine thn (h.run pins s σ _ _ I1 (hw a b c B)) fun f s1 q => ?_
  cases f with
  | next => obtain ⟨σ', H', I2, a, b, c, B, e, q⟩ := q; exact ⟨σ', _, urnShut I2 e B, q⟩
  | brk => obtain ⟨σ', H', I2, a, b, c, B, e, q⟩ := q; exact ⟨σ', _, urnShut I2 e B, q⟩
  | cont => obtain ⟨σ', H', I2, a, b, c, B, e, q⟩ := q; exact ⟨σ', _, urnShut I2 e B, q⟩
  | ret v => obtain ⟨x, σ', H', I2, r, a, b, c, B, e, q⟩ := q; exact ⟨x, σ', _, urnShut I2 e B, r, q⟩
theorem pe_shut {e : Expr} {t : TE} (h : PE X e t) : PE X e (tShut t) := by
  refine ⟨fun pins s
        σ H Q I hw => ?_⟩
  refine thn (h.run pins s σ _ _ I hw) fun v s1 ⟨x, H1, I2, r, u, e1, a, b, c, B, e2, q⟩ => ?_
  exact ⟨x, _, urnShut I2 e2 B, r, q⟩
/-- repr of data -/
def rRepr (K : PySem.W.Frag) : List V → Hp → VK → Prop := fun xs H Q => ∃ (a : Addr) (d : PyData), xs = [.ref a] ∧ Dp K H (.ref a) d ∧ d.showable = true ∧ d.hasDict = false ∧ d.shown.length ≤ sizeLine ∧ d.depth ≤ 60 ∧ Q (.str d.shown) H
end
end Ur
namespace Ur
open PySem L2
section
variable {X : Cx}
theorem call_repr (hg : X.A.guards = some []) (hu : X.A.units + 64 < cLine) : CallR X (.builtin "repr") (rRepr X.K) := by
  intro pins s σ
        H xs us Q I r h
  obtain ⟨a, d, rfl, hd, h1, h2, h3, h4, q⟩ := h
  cases r with
  | cons ra rn =>
    cases rn
    obtain rfl := (show _ = Value.ref a from ra)
    obtain ⟨as, hr⟩ := Dp.reads I d _ _ hd rfl
    exact repr_of_reads' hr h1 (fun z => by rw [h2] at z; cases z) hg (by omega) (fun b o e => e) (fun h' u tk hk => ⟨.str d.shown, H, I.kept hk, ⟨u, rfl⟩, q⟩) h3
end
/-- a def's promise where no repr runs around it -/
structure FnG (P : Program) (w : World) (K : PySem.W.Frag) (mg : Str → Option Value) (base : Heap) (CX : CXT) (k : Nat) (f : Addr) (fd : FuncData) (ps : List Str) (sp : Sp) : Prop where
  lens : ∀ vs H Q E, sp vs H Q E → vs.length = ps.length
  go : ∀ (A : Around) (outer : List Env) (s : Shared) (H : Hp) (args : Args) (us : List Value) (vs : List V) (Q : VK) (E : XK), A.guards = some [] → Room k A → Env0 P w K mg base A outer s H →
    BindsTo s fd args (ps.zip us) → Vals vs us → sp vs H Q E → codeAny (model P w) A (.call (.ref f) args) (CR CX outer P w H s Q E) s
section
variable {X : Cx} {CX : CXT} {k : Nat} {f : Addr} {fd : FuncData} {ps : List Str} {sp : Sp} {E : XK} {ds : List Value} {dvs : List V}
theorem callG {x : Str} {p pos : Pos} {e : Expr} {es : List Expr} {t : TA} (F : FnG X.prog X.w X.K X.mg X.base CX k f fd ps sp) (hg : X.A.guards = some []) (hr : Room k X.A) (hgl : Gl X x) (hm : X.mg x = some (.ref f))
    (hk : PySem.W.keepIn X.K (.ref f) = true) (hb : Binds X.K fd ps []) (hx : Passes CX X E) (ha : PA X (e :: es) t) (hdb : (x == ("__debug__" : Str)) = false := by decide)
    (he : starEach (e :: es) X.env = (false, eval e X.env) :: starEach es X.env :=
          by rfl) (hpl : (backTo pos (starEach es X.env)).any (·.1) = false := by rfl) :
    PE X (.Call (.Name x p) (e :: es) [] pos) (tCall sp [] E t) := by
  constructor
  intro pins s σ H Q I h
  apply wpAny_Call_Name_kw
  apply ld_glob I hgl hm _ hdb
  apply PySem.W.callWith_K (h₀ := X.base) I.ok.mod.kin hk _ he hpl
  refine thn (ha.run pos pins s σ H _ I h) ?_
  rintro us s1 ⟨vs, H1, I1, r, q⟩
  refine ⟨I1.kIn, ?_⟩
  have q' : sp vs H1 Q E := by simpa using q
  have hl : us.length = ps.length := by
    rw [← r.length]
    exact F.lens _ _ _ _ q'
  have b1 : BindsTo s1 fd ⟨us, []⟩ (ps.zip us) := by simpa using hb s1 us I1.kIn (by simpa using hl)
  apply wpAny_call
  refine codeAny_mono (F.go X.A X.stack s1 H1 ⟨us, []⟩ us vs Q E hg hr I1.env0 b1 r q') ?_
  intro res s' hq
  match res, hq with
  | .error e, hq => exact hx pins σ H1 s1 e s' I1 hq
  | .ok (.ret u), hq => exact I1.after hq
end
end Ur

namespace Ur
open PySem L2 PyProof.Rows
section
variable {P : Program} {w : World} {K :
      PySem.W.Frag} {mg : Str → Option Value} {base : Heap}
/-- the rule for a def that asks that no repr runs around it -/
theorem okG {x qual : Str} {st : Stmt} {f : Addr} {fd : FuncData} {N ps : List Str} {k : Nat} {sp : Sp} (F : Fun K x qual st f fd) (S : FnScope N ps (defScope st))
    (len : ∀ vs H Q E, sp vs H
          Q E → vs.length = ps.length)
    (body : ∀ (cdv : Value) (A : Around) (outer : List Env) (s : Shared) (H : Hp) (vs : List V) (Q : VK) (E : XK), A.guards = some [] → Room k (A.deeper (envOfC qual (defScope st) s.heap.objs.size f cdv)) →
      sp vs H Q E → ∃ t, PSs (cxOf CX0 P w K mg base N qual (defScope st) f cdv A outer s H E).nox (defBody st) t ∧ t { nx := fun _ H' => Q .non H', rt := Q } (start N vs) H) :
    FnG P w K mg base CX0 (k + 1) f fd ps sp := by
  obtain ⟨oc, od, kV, doc, pm, an,
        cdv, ct, osl, rfl, lk, hcd⟩ := F.ex
  refine ⟨len, ?_⟩
  intro A outer s H args us vs Q E hg hr e0 hb r hsp
  have old : ∀ b o, base.get? b = some o → s.heap.get? b = some o := fun b o e => (e0.bs b o e).1
  have KX := e0.mod.kin.keeps old
  apply codeAny_call_function hr.depth (KX _ _ lk) rfl S.co S.gen rfl (PySem.W.codeRec_of KX hcd)
  apply hb
  apply wpAny_newFunctionEnv_cells S.kind
  · rintro ⟨n, v⟩ hy
    have hn := (List.of_mem_zip hy).1
    cases S.par n hn with
    | inl q => exact Or.inl q
    | inr q => exact Or.inr ⟨q, PySem.W.cellsFrom_some _ _ _ (Or.inl q)⟩
  intro env he s1 x
  subst he
  refine ⟨(e0.mod.nolimit.keeps old).keeps x.toInCall.keep, ?_⟩
  apply codeAny_func
  obtain ⟨t, ht, hq⟩ := body cdv A outer s H vs Q E hg (hr.deeper _) hsp
  have I := inv_start (CX := CX0) (E := E) S hr.hd e0 (len _ _ _ _ hsp) r x
  refine wpAny_mono (ht.nox.run [] s1 (start N vs) H _ I hq) ?_ (fun _ _ z => z)
  intro fl s' hs
  match fl, hs with
  | .ret u, ⟨v, _, H', J, rv, q⟩ => exact ⟨v, H', J.os, J.bare, J.base, J.hok, rv, q⟩
  | .next, ⟨_, H', J, q⟩ => exact ⟨V.non, H', J.os, J.bare, J.base, J.hok, rfl, q⟩
  | .brk, ⟨_, _, _, q⟩ => exact False.elim q
  | .cont, ⟨_, _, _, q⟩ => exact False.elim q
end
end Ur

namespace Ur
open PySem L2 PyProof.Rows
section
variable {P : Program} {w : World} {K : PySem.W.Frag} {mg mb : Str → Option Value} {k : Nat} {fa a : Addr} {fd : FuncData} {x : Str} {sp : Sp} {s1 : Shared} {vs : List Value} {ns : List Int}
abbrev Goes (fa a : Addr) (P : Program) (w : World) (s1 : Shared) : Prop :=
  codeAny (model P w) callerA (.call (.ref fa) ⟨[.ref a], []⟩) (fun r s' => r = .ok (.ret (.bool true)) ∧ OldK s1.heap s'.heap ∧ s'.os = s1.os ∧ AllBare s'.gens) s1
/-- from an abstract heap that tracks the script at most -/
theorem goes_of {H : Hp} (KX : K.In s1.heap) (hns : s1.heap.Ns mainGlobals mg) (hb : s1.heap.Ns builtinsNs mb) (hbb : ∀ y : Str, y ≠ "__name__" → mb y = bootBuiltins y) (hlim : s1.heap.NoLimit) (hg : s1.gens = #[])
    (ha : s1.heap.get? a = some { cls := .type "list", data := .seq vs.toArray }) (hr : Room k callerA)
    (F : ∀ base : Heap, K.In base → base.Ns mainGlobals mg → FnG P w K mg base CX0 k fa fd [x] sp) (bind : ∀ (s : Shared) (u : Value), BindsTo s fd ⟨[u], []⟩ [(x, u)])
    (hok : HOk P w H s1.heap) (hsp : sp [.ref a] H (fun v _ => v = .bl true) fun _ _ _ => False)
    (one : ∀ b, H b = none ∨ (b = a ∧ K.lookup a = none ∧ ∃ o ys, H b = some (.frz o (.lst ys)))) : Goes fa a P w s1 := by
  have seen : ∀ {b o}, s1.heap.get? b = some o → H b = none → (hidT s1.heap H).get? b = some o := fun e z => hidT_get e z
  have notD : ∀ {b o es ep}, s1.heap.get? b = some o → o.data = .dict es ep → H b = none := by
    intro b o es ep e d
    rcases one b with z | ⟨rfl, _, _⟩
    · exact z
    · rw [ha] at e
      obtain rfl := Option.some.inj e
      cases (show Data.seq vs.toArray _ = Data.dict es ep from d)
  have up : ∀ {b m}, s1.heap.Ns b m → (hidT s1.heap H).Ns b m := by
    rintro b m ⟨o, es, ep, e, d, r⟩
    exact ⟨o, es, ep, seen e (notD e d), d, r⟩
  have KB : K.In (hidT s1.heap H) := by
    intro b o e
    refine seen (KX b o e) ?_
    rcases one b with z | ⟨rfl, z, _⟩
    · exact z
    · rw [z] at e; cases e
  obtain ⟨mc, l1, l2⟩ := hlim
  have M : Mod K mg (hidT s1.heap H) := { kin := KB, glob := up hns, blt := ⟨mb, up hb, hbb⟩, nolimit := ⟨mc, up l1, l2⟩ }
  have e0 : Env0 P w K mg (hidT s1.heap H) callerA [] s1 H :=
    { frames := rfl, mod := M, bs := fun b o e => of_hidT e, bsz := Nat.le_of_eq (hidT_size _ _), funs := trivial, frf := fun b z => (by cases (show b ∈ ([] : List Addr) from z)), hok := hok, bare := .of_eq hg }
  refine codeAny_mono ((F _ KB (up hns)).go callerA [] s1 H ⟨[.ref a], []⟩ [.ref a] [.ref a] _ _ rfl hr e0 (bind s1 (.ref a)) (.cons rfl .nil) hsp) ?_
  intro r s' h
  match r, h with
  | .ok (.ret u), ⟨v, H', os, bare, un, hok', rv, hv⟩ =>
    obtain rfl : v = .bl true := hv
    obtain rfl : u = Value.bool true := rv
    refine ⟨rfl, OldK.of_keep ?_, os, bare⟩
    intro b o e
    rcases one b with z | ⟨rfl, _, oo, ys, z⟩
    · exact un.keep b o e z (fun q => (by cases (show b ∈ ([] : List Addr) from q))) (fun q => nomatch q)
    · have e1 := (hok b _ z).1
      have e2 := (hok' b _ (un.frzs b oo _ z)).1
      rw [e] at e1
      obtain rfl :=
            Option.some.inj e1
      exact e2
theorem goes (KX : K.In s1.heap) (hns : s1.heap.Ns mainGlobals mg) (hb : s1.heap.Ns builtinsNs mb) (hbb : ∀ y : Str, y ≠ "__name__" → mb y = bootBuiltins y) (hlim : s1.heap.NoLimit) (hg : s1.gens = #[])
    (ha : s1.heap.get? a = some { cls := .type "list", data := .seq vs.toArray }) (hi : IntsAre vs ns) (hl : ns.length ≤ sizeLine) (hr : Room k callerA)
    (F : ∀ base : Heap, K.In base → base.Ns mainGlobals mg → FnG P w K mg base CX0 k fa fd [x] sp) (bind : ∀ (s : Shared) (u : Value), BindsTo s fd ⟨[u], []⟩ [(x, u)])
    (hsp : ∀ H : Hp, SqL K H a (ns.map V.int) → sp [.ref a] H (fun v _ => v = .bl true) fun _ _ _ => False) : Goes fa a P w s1 := by
  have rv := vals_ints hi
  cases hk : K.lookup a with
  | some o =>
    have e := KX a o hk
    rw [ha] at e
    obtain rfl := Option.some.inj e
    refine goes_of (H := fun _ => none) KX hns hb hbb hlim hg ha hr F bind (fun b u z => nomatch z) (hsp _ (Or.inr ⟨_, vs.toArray, _, hk, rfl, rfl, rfl, ?_, ?_⟩)) (fun b => Or.inl rfl)
    · rw [List.size_toArray, hi.length]; exact hl
    · exact rv
  | none =>
    let o : Obj := { cls := .type "list", data := .seq vs.toArray }
    let H : Hp := upd (fun _ => none) a (.frz o (.lst (ns.map V.int)))
    have hH : H a = some (.frz o (.lst (ns.map V.int))) := upd_same
    refine goes_of (H := H) KX hns hb hbb hlim hg ha hr F bind ?_ (hsp H (Or.inl (Or.inr ⟨o, hH⟩))) ?_
    · intro b u z
      by_cases e : b = a
      · subst e
        rw [hH] at z
        obtain rfl := Option.some.inj z
        refine ⟨ha, ?_, vs, _, rv, ha⟩
        rw [List.length_map]
        exact hl
      · rw [show H b = none from upd_ne e] at z
        cases z
    · intro b
      by_cases e : b = a
      · exact Or.inr ⟨e, hk, o, _, by rw [e]; exact hH⟩
      · exact Or.inl (upd_ne e)
end
theorem walkG {l : PySem.W.OpenLaw} {n k : Nat} {q : Program} {loose : List Str} {XP : (Str → Option Value) → Heap → Prop} {YP : World → Heap → Prop} {d : DefRec} {K : Params → PySem.W.Frag} {sp : PySem.W.Frag → Sp} {x : Str}
    (hn : l.most = some n) (hn2 : n ≤ sizeLine) (hdf : d.params.defaults = []) (hr
          : Room k callerA) (hY : ∀ (w : World) (h : Heap), YP w h → (K w.params).In h)
    (F : ∀ (w : World) (mg : Str → Option Value) (fa : Addr) (h : Heap),
          (K w.params).In h → h.Ns mainGlobals mg → mg d.name = some (.ref fa) →
      ∃ fd : FuncData, (∀ (s : Shared) (u : Value), BindsTo s fd ⟨[u], []⟩ [(x, u)]) ∧ ∀ base : Heap, (K w.params).In base → base.Ns mainGlobals mg → FnG l.prog w (K w.params) mg base CX0 k fa fd [x] (sp (K w.params)))
    (hsp : ∀ (K : PySem.W.Frag) (H : Hp) (a : Addr) (ns : List Int), ns.length ≤ n → SqL K H a (ns.map V.int) → sp K [.ref a] H (fun v _ => v = .bl true) fun _ _ _ => False) :
    PySem.W.WalkO q loose XP YP l.row.toRowW
          d [] (fun f vs => PySem.call f vs) := by
  apply Att.attach_call hn hdf
  intro w s0 s1 mg mb fa o pm cd doc a vs ns G Y ho hd hcd hmg hobj hints hlen hg
  obtain ⟨fd, hb, hF⟩ := F w mg fa _ (hY w _ Y) G.T.g hmg
  exact goes (hY w _ Y) G.T.g G.T.b G.T.builtins G.T.nolimit hg hobj hints (Nat.le_trans hlen hn2) hr hF hb fun H hS => hsp _ H a ns hlen hS
end Ur

namespace Ur
open PySem L2
/-- the def of this name keeps this promise -/
def Has (P : Program) (w : World) (K : PySem.W.Frag) (mg : Str → Option Value) (base : Heap) (x : Str) (ps : List Str) (k : Nat) (sp : Sp) : Prop :=
  ∃ f fd, FnOk P w K mg base CX0 k f fd ps sp ∧ mg x = some (.ref f) ∧ PySem.W.keepIn K (.ref f) = true ∧ Binds K fd ps []
/-- the def stands there -/
def Fnd (K : PySem.W.Frag) (mg : Str → Option Value) (x : Str) (st : Stmt) (ps : List Str) : Prop :=
  ∃ f fd, Fun K x x st f fd ∧ mg x = some (.ref f) ∧ Binds K fd ps []
def KwAll (K : PySem.W.Frag) (fd : FuncData) (ps : List Str) : Prop := KBinds K fd ps ps (fun us ws => us ++ ws) (fun vs zs => vs ++ zs)
section
variable {X : Cx} {x : Str} {p pos : Pos} {e : Expr} {es : List Expr} {t tk : TA} {ps : List Str} {k : Nat} {sp : Sp} {kws : List Keyword}
theorem pe_has (h : Has X.prog X.w X.K X.mg X.base x ps k sp) (hr : Room k X.A) (hg : Gl X x) (ha : PA X (e :: es) t) (hdb : (x == ("__debug__" : Str)) = false := by decide)
    (he : starEach (e :: es) X.env = (false, eval e X.env) :: starEach es X.env :=
          by rfl) (hpl : (backTo pos (starEach es X.env)).any (·.1) = false := by rfl) :
    PE X (.Call (.Name x p) (e :: es) [] pos) (tCall sp [] E0 t) := by
  obtain ⟨f, fd, G, m, kp, b⟩ := h
  exact pe_call G hr hg m kp b .nil pass0 ha hdb he hpl
def tHasK (sp : Sp) (tk : TA) : TE := fun σ H Q => tk σ H fun zs H1 => sp zs H1 Q E0
/-- all arguments by name, in their order -/
theorem pe_hasK0 (h : ∃ f fd, FnOk X.prog X.w X.K X.mg X.base CX0 k f fd ps sp ∧ X.mg x = some (.ref f) ∧ PySem.W.keepIn X.K (.ref f) = true ∧ KwAll X.K fd ps) (hr : Room k X.A) (hg : Gl X x) (hkw : PK X kws tk)
    (hall : (backToKw pos (keywordEach kws X.env)).all (·.1.isSome) = true := by rfl) (hks : (backToKw pos (keywordEach kws X.env)).filterMap (·.1) = ps := by rfl) (hdb : (x == ("__debug__" : Str)) = false := by decide)
    (hpl : ((backTo pos (starEach [] X.env)).any (·.1) || (backToKw
          pos (keywordEach kws X.env)).any (·.1.isNone)) = false := by rfl) :
    PE X (.Call (.Name x p) [] kws pos) (tHasK sp tk) := by
  obtain ⟨f, fd, G, m, kp, b⟩ := h
  constructor
  intro pins s σ H Q I hq
  apply wpAny_Call_Name_kw
  apply ld_glob I hg m _ hdb
  apply PySem.W.callWith_KW0 (h₀ := X.base) I.ok.mod.kin kp hall _ hpl
  refine thn (hkw.run pos pins s σ H _ I hq) ?_
  rintro ws s2 ⟨zs, H2, I2, rz, q2⟩
  refine ⟨I2.kIn, ?_⟩
  rw [hks]
  exact run_fnk (us := []) (vs := []) G hr b pass0 I2 .nil rz q2
end
end Ur

namespace Ur
open PySem L2
theorem same_new {H : Hp} {p : Addr} {o : HO} (h : H p = none) : Same H (upd H p o) := fun a u e => by
  rw [upd_ne (ne_of_none e h)]
  exact e
/-- a list that H does not know may grow -/
theorem same_own {H H' : Hp} {p : Addr} {o : HO} (e : Same H H') (h : H p = none) : Same H (upd H' p o) := fun a u q => by
  rw [upd_ne (ne_of_none q h)]
  exact e a u q
theorem same_sqT {K : PySem.W.Frag} {H H' : Hp} {a : Addr} {xs : List V} (e : Same H H') (h : SqT K H a xs) : SqT K H' a xs := by
  rcases h with (h
        | ⟨o, h⟩) | h
  · exact Or.inl (Or.inl (e _ _ h))
  · exact Or.inl (Or.inr ⟨o, e _ _ h⟩)
  · exact Or.inr h
theorem map_at {ns : List Int} {i : Nat} {x : V} (h : (ns.map V.int)[i]? = some x) : ∃ z, ns[i]? = some z ∧ x = V.int z := by
  rw [List.getElem?_map] at h
  cases e : ns[i]? with
  | none => rw [e]
        at h; cases h
  | some z => rw [e] at h; exact ⟨z, rfl, (Option.some.inj h).symm⟩
/-- what a comprehension without a test has made behind i turns -/
structure Made (H : Hp) (Pe : Nat → V → Prop) (D : Addr) (i : Nat) (H' : Hp) : Prop where
  new : H D = none
  same : Same H H'
  held : ∃ ys, H' D = some (.lst ys) ∧ ys.length = i ∧ ∀ j y, ys[j]? = some y → Pe j y
theorem Made.start {H : Hp} {Pe : Nat → V → Prop} {D : Addr} (h : H D = none) : Made H Pe D 0 (upd H D (.lst [])) :=
  ⟨h, same_new h, [], upd_same, rfl, fun j y e => by simp at e⟩
theorem Made.turn {H H3 : Hp} {Pe : Nat → V → Prop} {D : Addr} {i : Nat} {te : TE} {σ2 : L2.St} (m : Made H Pe D i H3) (hi : i < 100000)
    (he : ∀ Q' : VK, (∀ y H4, Pe i y → Same H3 H4 → Q' y H4) → te σ2 H3 Q') :
    te σ2 H3 fun y H4 => ∃ acc, H4 D = some (.lst acc) ∧ acc.length < sizeLine ∧ Made H Pe D (i + 1) (upd H4 D (.lst (acc ++ [y]))) := by
  obtain ⟨hn, sm, ys, h1, h2, h3⟩ := m
  refine he _ fun y H4 py s4 => ⟨ys, s4 _ _ h1, Nat.lt_of_lt_of_le (by omega : ys.length < 100000) (by decide), hn, same_own (sm.trans s4) hn, ys ++ [y], upd_same, by simp [h2], fun j z e => ?_⟩
  by_cases hj : j < ys.length
  · rw [List.getElem?_append_left hj] at e
    exact h3 j z e
  · rw [List.getElem?_append_right (by omega)] at e
    have : j = i := by
      have hl := (List.getElem?_eq_some_iff.mp e).1
      simp at hl
      omega
    subst this
    rw [← h2, Nat.sub_self] at e
    obtain rfl := Option.some.inj e
    exact py
section
variable {K : PySem.W.Frag} {a : Addr} {xs : List V} {te : TE} {vs : List Nat} {j : Nat} {σ : L2.St} {H : Hp} {Q : VK}
/-- [elt for x in t], t a tuple -/
theorem lcT {tl : TE} (Pe : Nat → V → Prop) (hx : ∀ R : VK, R (.ref a) H → tl σ H R) (hs : SqT K H a xs) (hz : xs.length ≤ 100000) (hw : ∀ x, wipe ((wipe σ vs).set j (some x)) vs = wipe σ vs)
    (he : ∀ i x H3, xs[i]? = some x → Same H H3 → ∀ Q' : VK, (∀ y H4, Pe i y → Same H3 H4 → Q' y H4) → te ((wipe σ vs).set j (some x)) H3 Q')
    (hq : ∀ D ys H', H D = none → Same H H' → H' D = some (.lst ys) → ys.length = xs.length → (∀ i y, ys[i]? = some y → Pe i y) → Q (.ref D) H') : tLc (iTup K tl) (gName j) tYes te vs σ H Q := by
  refine hx _ ⟨a, rfl, ⟨xs, hs⟩, fun D hD => ?_⟩
  refine lc_tup (xs := xs) (Made H Pe D) (.start hD) (fun i H' _ m => same_sqT m.same hs) (fun i x H' hi m => ⟨hw x, ?_⟩) (fun H' ⟨hn, sm, ys, h1, h2, h3⟩ => hq D ys H' hn sm h1 h2 h3)
  have hl := (List.getElem?_eq_some_iff.mp hi).1
  unfold tYes
  dsimp only
  rw [if_pos rfl]
  exact (m.turn (by omega) (he i x H' hi m.same))
/-- [elt for x in l], l a list -/
theorem lcL {tl : TE} (Pe : Nat → V → Prop) (hx : ∀ R : VK, R (.ref a) H → tl σ H R) (hs : SqL K H a xs) (hz : xs.length ≤ 100000) (hw : ∀ x, wipe ((wipe σ vs).set j (some x)) vs = wipe σ vs)
    (he : ∀ i x H3, xs[i]? = some x → Same H H3 → ∀ Q' : VK, (∀ y H4, Pe i y → Same H3 H4 → Q' y H4) → te ((wipe σ vs).set j (some x)) H3 Q')
    (hq : ∀ D ys H', H D = none → Same H H' → H' D = some (.lst ys) → ys.length = xs.length → (∀ i y, ys[i]? = some y → Pe i y) → Q (.ref D) H') : tLc (iList K tl) (gName j) tYes te vs σ H Q := by
  refine hx _ ⟨a, rfl, ⟨xs, hs⟩, fun D hD => ?_⟩
  refine lc_list (xs := xs) (Made H Pe D) (.start hD) (fun i H' _ m => m.same.seq hs) (fun i x H' hi m => ⟨hw x, ?_⟩) (fun H' ⟨hn, sm, ys, h1, h2, h3⟩ => hq D ys H' hn sm h1 h2 h3)
  have hl := (List.getElem?_eq_some_iff.mp hi).1
  unfold tYes
  dsimp only
  rw [if_pos rfl]
  exact (m.turn (by omega) (he i x H' hi m.same))
/-- [elt for x in range(n)] -/
theorem lcR {ta : TA} {n : Int} {H0 : Hp} (Pe : Nat → V → Prop) (hx : ∀ R : List V → Hp → Prop, (∀ H1, Same H0 H1 → R [.int n] H1) → ta σ H0 R) (h0 : 0 ≤ n) (hz : n ≤ 100000) (hw : ∀ x, wipe ((wipe σ vs).set j (some x)) vs = wipe σ vs)
    (he : ∀ (i : Nat) H3, i < n → Same H0 H3 → ∀ Q' : VK, (∀ y H4, Pe i y → Same H3 H4 → Q' y H4) → te ((wipe σ vs).set j (some (.int (0 + (i : Int))))) H3 Q')
    (hq : ∀ D ys H', H0 D = none → Same H0 H' → H' D = some (.lst ys) → (ys.length : Int) = n → (∀ i y, ys[i]? = some y → Pe i y) → Q (.ref D) H') : tLc (iRng1 ta) (gName j) tYes te vs σ H0 Q := by
  refine hx _ fun H1 s1 => ⟨n, rfl, by omega, by omega, fun D hD => ?_⟩
  refine lc_range (lo := 0) (n := n.toNat) (Made H1 Pe D) (.start hD) (fun i H' hi m => ⟨hw _, ?_⟩) (fun H' ⟨hn, sm, ys, h1, h2, h3⟩ => hq D ys H' (s1.free hn) (s1.trans sm) h1 (by omega) h3)
  unfold tYes
  dsimp only
  rw [if_pos rfl]
  exact (m.turn (by omega) (he i H' (by omega) (s1.trans m.same)))
end
end Ur
namespace Ur
open PySem L2
/-- a statement and the rest, with a word of one's own between them -/
def tMid (t u : TS) : TS := fun D σ H => ∃ M : L2.St → Hp → Prop, t { D with nx := M } σ H ∧ ∀ σ' H', M σ' H' → u D σ' H'
theorem pss_mid {X : Cx} {st : Stmt} {rest : List Stmt} {t u : TS} (h1 : PS X st t) (h2 : PSs X rest u) : PSs X (st :: rest) (tMid t u) := by
  constructor
  intro pins s σ H D I hw
  obtain ⟨M, hm, hu⟩ := hw
  apply wpAny_execs_cons
  refine thn (h1.run pins s σ H { D with nx := M } I hm) ?_
  intro f s1 q
  match f, q with
  | .next, ⟨σ', H', I', q⟩ => exact h2.run pins s1 σ' H' D I' (hu σ' H' q)
  | .ret v, q => exact q
  | .brk, q => exact q
  | .cont, q => exact q
theorem seq_of {t u : TS} {D : Ends} {σ : L2.St} {H : Hp} (h : t { D with nx := u D } σ H) : tSeq t u D σ H := h
theorem asg_of {te : TE} {g : TG} {D : Ends} {σ : L2.St} {H : Hp} (h : te σ H fun x H1 => g x σ H1 D.nx) : tAsg te g D σ H := h
theorem ixN_nat {n j : Nat} (h : j < n) : ixN n (j : Int) = some j := by
  unfold ixN
  rw [if_pos (by omega),
        if_pos (by omega)]
  rfl
end Ur

namespace Ur
open PySem L2
/-! ### values of any kind -/
inductive Kd where
  | non | bool | int | str | lst | tup | dic
  deriving DecidableEq
def Kd.nm : Kd → String
  | .non => "NoneType" | .bool => "bool" | .int => "int" | .str => "str" | .lst => "list" | .tup => "tuple" | .dic => "dict"
theorem kd_int (k : Kd) : kitB k.nm "int" = some (k == .int || k == .bool) := by cases k <;> decide +kernel
theorem kd_bool (k : Kd) : kitB k.nm "bool" = some (k == .bool) := by cases k <;> decide +kernel
theorem kd_tup (k : Kd) : kitB k.nm "tuple" = some (k == .tup) := by cases k <;> decide +kernel
def OfKd (K : PySem.W.Frag) (H : Hp) (x : V) (k : Kd) : Prop := TyX K H x (.type k.nm)
def wh : V → Bool
  | .int _ => true
  | _ => false
theorem nm_inj {k l : Kd} (h : k.nm = l.nm) : k = l := by
  cases k <;> cases l <;> first | rfl | (exact absurd h (by decide))
theorem ofKd_wh {K : PySem.W.Frag} {H : Hp} {x : V} {k : Kd} (h : OfKd K H x k) : (k == .int) = wh x := by
  have no : ∀ l : Kd, l ≠ .int → Value.type k.nm = Value.type l.nm → (k == Kd.int) = false := fun l hl e => by
    have : k = l := nm_inj (by injection e)
    subst this
    exact beq_eq_false_iff_ne.mpr hl
  have yes : Value.type k.nm = Value.type Kd.int.nm → (k == Kd.int) = true := fun e => by
    have : k = .int := nm_inj (by injection e)
    subst this
    rfl
  unfold OfKd at h
  generalize ht : Value.type k.nm = t at h
  cases h with
  | base b =>
    cases b with
    | non => exact no .non (by decide) ht
    | bl y => exact no .bool (by decide) ht
    | int i => exact yes ht
    | str y => exact no .str (by decide) ht
    | flt y =>
      have e : k.nm = "float" := by injection ht
      cases k <;> exact absurd e (by decide)
    | lst e => exact no .lst (by decide) ht
    | frz e => exact no .lst (by decide) ht
    | tup e => exact no .tup (by decide) ht
    | dK e => exact no .dic (by decide) ht
    | dT e => exact no .dic (by decide) ht
    | ins e _ _ _ _ _ => cases ht
  | byt y =>
    have e : k.nm = "bytes" := by injection ht
    cases k <;> exact absurd e (by decide)
  | set e =>
    have e : k.nm = "set" := by injection ht
    cases k <;> exact absurd e (by decide)
  | kList e c => exact no .lst (by decide) ht
  | kTuple e c => exact no .tup (by decide) ht
  | kDict e c => exact no .dic (by decide) ht
  | fTuple e => exact no .tup (by decide) ht
  | fDict e => exact no .dic (by decide) ht
theorem ofKd_same {K : PySem.W.Frag} {H H' : Hp} {x : V} {k : Kd} (s : Same H H') (h : OfKd K H x k) : OfKd K H' x k := by
  unfold OfKd at h ⊢
  generalize Value.type k.nm = t at h ⊢
  cases h with
  | base b =>
    refine .base ?_
    cases b with
    | non => exact .non
    | bl y => exact .bl y
    | int i => exact .int i
    | str y => exact .str y
    | flt y => exact .flt y
    | lst e => exact .lst (s _ _ e)
    | frz e => exact .frz (s _ _ e)
    | tup e => exact .tup (s _ _ e)
    | dK e => exact .dK (s _ _ e)
    | dT e => exact .dT (s _ _ e)
    | ins e a b c d f => exact .ins (s _ _ e) a b c d f
  | byt y => exact .byt y
  | set e => exact .set (s _ _ e)
  | kList e c => exact .kList e c
  | kTuple e c => exact .kTuple e c
  | kDict e c => exact .kDict e c
  | fTuple e => exact .fTuple (s _ _ e)
  | fDict e => exact .fDict (s _ _ e)
theorem tup_kd {K : PySem.W.Frag} {H : Hp} {a : Addr} {xs : List V} (h : SqT K H a xs) : OfKd K H (.ref a) .tup := by
  rcases h with (h | ⟨o, h⟩) | ⟨o, its, n, h, c, _⟩
  · exact .base (.tup h)
  · exact .fTuple h
  · exact .kTuple h c
theorem all_wh : ∀ {xs : List V}, xs.all wh = true → ∃ ns : List Int, xs = ns.map V.int
  | [], _ => ⟨[], rfl⟩
  | x :: r, h => by
    rw [List.all_cons,
          Bool.and_eq_true] at h
    obtain ⟨ns, rfl⟩ := all_wh h.2
    cases x with
    | int i => exact ⟨i :: ns, rfl⟩
    | _ => exact absurd h.1 (by simp [wh])
theorem ints_wh (ns : List Int) : (ns.map V.int).all wh = true := by
  rw [List.all_map]
  exact List.all_eq_true.mpr
        fun _ _ => rfl
mutual
theorem dp_same {K : PySem.W.Frag} {H H' : Hp} (s : Same H H') : ∀ {v : V} {d : PyData}, Dp K H v d → Dp K H' v d
  | _, _, .non => .non
  | _, _, .bl b => .bl b
  | _, _, .int i => .int i
  | _, _, .str x => .str x
  | _, _, .lst h1 h2 => .lst (s.seq h1) (dpAll_same s h2)
  | _, _, .tup h1 h2 => .tup (same_sqT s h1) (dpAll_same s h2)
theorem dpAll_same {K : PySem.W.Frag} {H H' : Hp} (s : Same H H') : ∀ {vs : List V} {ds : List PyData}, DpAll K H vs ds → DpAll K H' vs ds
  | _, _, .nil => .nil
  | _, _, .cons h1 h2 => .cons (dp_same s h1) (dpAll_same s h2)
end
/-- an item of such a tuple -/
structure It (K : PySem.W.Frag) (H : Hp) (y : V) : Prop where
  kd : ∃ l, OfKd K H y l
  dat : ∃ d, Dp K H y d ∧ d.canLay0 = true ∧ d.depth ≤ 8
theorem It.same {K : PySem.W.Frag} {H H' : Hp} {y : V} (s : Same H H') (h : It K H y) : It K H' y :=
  ⟨let ⟨l, a⟩ := h.kd; ⟨l, ofKd_same s a⟩, let ⟨d, a, b⟩ := h.dat; ⟨d, dp_same s a, b⟩⟩
/-- a value of any kind, seen as an argument: its kind, and its items if it is a tuple -/
structure Arg (K : PySem.W.Frag) (H : Hp) (x : V) (k : Kd) (xs : List V) : Prop where
  ty : OfKd K H x k
  its : k = .tup → ∃ a, x = .ref a ∧ SqT K H a xs ∧ xs.length ≤ 1000 ∧ (∀ y ∈ xs, It K H y) ∧ ∀ i, V.int i ∈ xs → i.natAbs < 2 ^ 9000
theorem Arg.same {K : PySem.W.Frag} {H H' : Hp} {x : V} {k : Kd} {xs : List V} (s : Same H H') (A : Arg K H x k xs) : Arg K H' x k xs :=
  ⟨ofKd_same s A.ty, fun e => let ⟨a, e1, e2, e3, e4, e5⟩ := A.its e; ⟨a, e1, same_sqT s e2, e3, fun y hy => (e4 y hy).same s, e5⟩⟩
/-! ### tuples of ints as data -/
theorem dpAll_ints {K : PySem.W.Frag} {H : Hp} : ∀ ns : List Int, DpAll K H (ns.map V.int) (ns.map PyData.int)
  | [] => .nil
  | n :: r => .cons (.int n) (dpAll_ints r)
theorem dp_ints {K : PySem.W.Frag} {H : Hp} {a : Addr} {ns : List Int} (h : SqT K H a (ns.map V.int)) : Dp K H (.ref a) (.tuple (ns.map PyData.int)) := .tup h (dpAll_ints ns)
theorem lay_ints : ∀ ns : List Int, PyData.canLayAll0 (ns.map PyData.int) = true
  | [] => rfl
  | _ :: r => by
    show (true && PyData.canLayAll0 (r.map PyData.int)) = true
    rw [lay_ints r]
    rfl
theorem depth_ints : ∀ ns : List Int, PyData.depthAll (ns.map PyData.int) = 0
  | [] => rfl
  | _ :: r => by
    show max 0 (PyData.depthAll (r.map PyData.int)) = 0
    rw [depth_ints r]
    rfl
theorem shaped_ints (ns : List Int) : SeqAt.shaped (.tuple (ns.map PyData.int)) = true := by
  unfold SeqAt.shaped
  show (PyData.canLayAll0 _ && decide (PyData.depthAll _ + 1 ≤ 64)) = true
  rw [lay_ints, depth_ints]
  rfl
theorem eqvAll_ints : ∀ a b : List Int, PyData.eqvAll (a.map PyData.int) (b.map PyData.int) = decide (a = b)
  | [], [] => rfl
  | [], _ :: _ =>
        by simp [PyData.eqvAll]
  | _ :: _, [] =>
        by simp [PyData.eqvAll]
  | x :: a, y :: b => by
    show ((x == y) && PyData.eqvAll (a.map PyData.int) (b.map PyData.int)) = _
    rw [eqvAll_ints a b]
    by_cases e : x = y
    · subst e; simp
    · simp [e]
theorem eqv_ints (a b : List Int) : PyData.eqv (.tuple (a.map PyData.int)) (.tuple (b.map PyData.int)) = decide (a = b) := eqvAll_ints a b
/-- a list of such items as data -/
theorem its_dat {K : PySem.W.Frag} {H : Hp} : ∀ {ys : List V}, (∀ y ∈ ys, It K H y) → ∃ ds, DpAll K H ys ds ∧ PyData.canLayAll0 ds = true ∧ PyData.depthAll ds ≤ 8 ∧ ds.length = ys.length
  | [], _ => ⟨[], .nil, rfl, by decide, rfl⟩
  | y :: r, h => by
    obtain ⟨d, h1, h2, h3⟩ := (h y List.mem_cons_self).dat
    obtain ⟨ds, g1, g2, g3, g4⟩ := its_dat (ys := r) fun z hz => h z (List.mem_cons_of_mem _ hz)
    refine ⟨d :: ds, .cons h1 g1, ?_, ?_, by simp [g4]⟩
    · show (PyData.canLay0 d && PyData.canLayAll0 ds) = true
      rw [h2, g2]
      rfl
    · show max (PyData.depth d) (PyData.depthAll ds) ≤ 8
      omega
/-- a comprehension with a test that keeps items as they are -/
structure Kept (H : Hp) (xs : List V) (f : V → Bool) (D : Addr) (i : Nat) (H' : Hp) : Prop where
  new : H D = none
  same : Same H H'
  held : H' D = some (.lst ((xs.take i).filter f))
theorem lcTf {K : PySem.W.Frag} {a : Addr} {xs : List V} {tl te : TE} {tt : TT} {vs : List Nat} {j : Nat} {σ : L2.St} {H : Hp} {Q : VK} (f : V → Bool) (hx : ∀ R : VK, R (.ref a) H → tl σ H R) (hs : SqT K H a xs) (hz : xs.length ≤ 100000)
    (hw : ∀ x, wipe ((wipe σ vs).set j (some x)) vs = wipe σ vs)
    (ht : ∀ (i : Nat) (x : V) (H3 : Hp), xs[i]? = some x → Same H H3 → ∀ Q' : Bool → Hp → Prop, (∀ H4, Same H3 H4 → Q' (f x) H4) → tt ((wipe σ vs).set j (some x)) H3 Q')
    (he : ∀ (i : Nat) (x : V) (H3 : Hp), xs[i]? = some x → Same H H3 → ∀ Q' : VK, Q' x H3 → te ((wipe σ vs).set j (some x)) H3 Q')
    (hq : ∀ D H', H D = none → Same H H' → H' D = some (.lst (xs.filter f)) → Q (.ref D) H') : tLc (iTup K tl) (gName j) tt te vs σ H Q := by
  refine hx _ ⟨a, rfl, ⟨xs, hs⟩, fun D hD => ?_⟩
  refine lc_tup (xs := xs) (Kept H xs f D) ⟨hD, same_new hD, upd_same⟩ (fun i H' _ m => same_sqT m.same hs) (fun i x H' hi m => ⟨hw x, ?_⟩) (fun H' m => hq D H' m.new m.same (by have := m.held; rwa [List.take_length] at this))
  have hl := (List.getElem?_eq_some_iff.mp hi).1
  have e1 : xs.take (i + 1) = xs.take i ++ [x] := by
    obtain ⟨_, rfl⟩ := List.getElem?_eq_some_iff.mp hi
    exact List.take_succ_eq_append_getElem hl
  refine ht i x H' hi m.same _ fun H4 s4 => ?_
  cases hf : f x with
  | true =>
    rw [if_pos rfl]
    refine he i x H4 hi (m.same.trans s4) _ ⟨_, s4 _ _ m.held, ?_, m.new, same_own (m.same.trans s4) m.new, ?_⟩
    · have := List.length_filter_le f (xs.take i)
      rw [List.length_take] at this
      exact Nat.lt_of_lt_of_le (by omega : _ < 100001) (by decide)
    · rw [upd_same, e1, List.filter_append, List.filter_cons, if_pos hf]
      rfl
  | false =>
    rw [if_neg
          Bool.false_ne_true]
    refine ⟨m.new, m.same.trans s4, ?_⟩
    rw [e1, List.filter_append, List.filter_cons, if_neg (by rw [hf]; decide)]
    show _ = some (HO.lst (_ ++ []))
    rw [List.append_nil]
    exact s4 _ _ m.held
end Ur
namespace Ur
open PySem L2
section
variable {te : TE} {vs : List Nat} {j : Nat} {σ : L2.St} {Q : VK}
/-- [elt for x in range(n)], n drawn -/
theorem lcRn {ta : TA} {H0 : Hp} (Pn : Int → Prop) (Pe : Int → Nat → V → Prop) (hx : ∀ R : List V → Hp → Prop, (∀ n H1, Pn n → Same H0 H1 → R [.int n] H1) → ta σ H0 R) (hb : ∀ n, Pn n → 0 ≤ n ∧ n ≤ 100000)
    (hw : ∀ x, wipe ((wipe σ vs).set j (some x)) vs = wipe σ vs)
    (he : ∀ (n : Int) (i : Nat) (H3 : Hp), Pn n → i < n → Same H0 H3 → ∀ Q' : VK, (∀ y H4, Pe n i y → Same H3 H4 → Q' y H4) → te ((wipe σ vs).set j (some (.int (0 + (i : Int))))) H3 Q')
    (hq : ∀ n D ys H', Pn n → H0 D = none → Same H0 H' → H' D = some (.lst ys) → (ys.length : Int) = n → (∀ i y, ys[i]? = some y → Pe n i y) → Q (.ref D) H') : tLc (iRng1 ta) (gName j) tYes te vs σ H0 Q := by
  refine hx _ fun n H1 pn s1 => ⟨n, rfl, by have := hb n pn; omega, by have := hb n pn; omega, fun D hD => ?_⟩
  have hn := hb n pn
  refine lc_range (lo := 0) (n := n.toNat) (Made H1 (Pe n) D) (.start hD) (fun i H' hi m => ⟨hw _, ?_⟩) (fun H' ⟨hn, sm, ys, h1, h2, h3⟩ => hq n D ys H' pn (s1.free hn) (s1.trans sm) h1 (by omega) h3)
  unfold tYes
  dsimp only
  rw [if_pos rfl]
  exact m.turn (by omega) (he n i H' pn (by omega) (s1.trans m.same))
end
end Ur
namespace Ur
open PySem L2
/-- the def of this name keeps this promise where no repr runs around it -/
def HasG (P : Program) (w : World) (K : PySem.W.Frag) (mg : Str → Option Value) (base : Heap) (x : Str) (ps : List Str) (k : Nat) (sp : Sp) : Prop :=
  ∃ f fd, FnG P w K mg base CX0 k f fd ps sp ∧ mg x = some (.ref f) ∧ PySem.W.keepIn K (.ref f) = true ∧ Binds K fd ps []
def HasK (P : Program) (w : World) (K : PySem.W.Frag) (mg : Str → Option Value) (base : Heap) (x : Str) (ps : List Str) (k : Nat) (sp : Sp) : Prop :=
  ∃ f fd, FnOk P w K mg base CX0 k f fd ps sp ∧ mg x = some (.ref f) ∧ PySem.W.keepIn K (.ref f) = true ∧ KwAll K fd ps
theorem pe_hasG {X : Cx} {x : Str} {p pos : Pos} {e : Expr} {es : List Expr} {t : TA} {ps : List Str} {k : Nat} {sp : Sp} (h : HasG X.prog X.w X.K X.mg X.base x ps k sp) (hgu : X.A.guards = some []) (hr : Room k X.A) (hg : Gl X x)
    (ha : PA X (e :: es) t) (hdb : (x == ("__debug__" : Str)) = false := by decide) (he : starEach (e :: es) X.env = (false, eval e X.env) :: starEach es X.env := by rfl)
    (hpl : (backTo pos (starEach es X.env)).any (·.1) = false := by rfl) : PE X (.Call (.Name x p) (e :: es) [] pos) (tCall sp [] E0 t) := by
  obtain ⟨f, fd, G, m, kp, b⟩ := h
  exact callG G hgu hr hg m kp b pass0 ha hdb he hpl
def FndK (K : PySem.W.Frag) (mg : Str → Option Value) (x : Str) (st : Stmt) (ps : List Str) : Prop :=
  ∃ f fd, Fun K x x st f fd ∧ mg x = some (.ref f) ∧ Binds K fd ps [] ∧ KwAll K fd ps
section
variable {P : Program} {w : World} {K : PySem.W.Frag} {mg : Str → Option Value} {base : Heap} {x : Str} {st : Stmt} {ps : List Str} {k : Nat} {sp : Sp}
theorem Fnd.has (D : Fnd K mg x st ps) (h : ∀ {f fd}, Fun K x x st f fd → FnOk P w K mg base CX0 k f fd ps sp) : Has P w K mg base x ps k sp := by
  obtain ⟨f, fd, F, m, b⟩ := D
  exact ⟨f, fd, h F, m, F.kp, b⟩
theorem Fnd.hasG (D : Fnd K mg x st ps) (h : ∀ {f fd}, Fun K x x st f fd → FnG P w K mg base CX0 k f fd ps sp) : HasG P w K mg base x ps k sp := by
  obtain ⟨f, fd, F, m, b⟩ := D
  exact ⟨f, fd, h F, m, F.kp, b⟩
theorem FndK.fnd (D : FndK K mg x st ps) : Fnd K mg x st ps := by
  obtain ⟨f, fd, F, m, b, _⟩ := D
  exact ⟨f, fd, F, m, b⟩
theorem FndK.hasK (D : FndK K mg x st ps) (h : ∀ {f fd}, Fun K x x st f fd → FnOk P w K mg base CX0 k f fd ps sp) : HasK P w K mg base x ps k sp := by
  obtain ⟨f, fd, F, m, _, b⟩ := D
  exact ⟨f, fd, h F, m, F.kp, b⟩
end
section
variable {K : PySem.W.Frag} {h : Heap} {mg : Str → Option Value} {x : Str} {st : Stmt} {ps : List Str} {f : Addr} {oc kV dc pm cd ct : Value} {od an : Option Addr} {sl : Array (Option Value)}
theorem fnd_mk (X : K.In h) (G : h.Ns mainGlobals mg) (a : PySem.W.nsIn K mainGlobals x = some (some (.ref f))) (l : K.lookup f = some ⟨oc, od, .func (PySem.W.fnOf x x (defArgs st) (defBody st) (defScope st) .none kV dc pm an cd ct), sl⟩)
    (c : PySem.W.codeIn K cd x = true) (k : PySem.W.keepIn K (.ref f) = true)
    (hb : ∀ (kV doc pm : Value) (an : Option Addr) (cdv ct : Value) (us : List Value), us.length = ps.length → bindArgs (PySem.W.fnOf x x (defArgs st) (defBody st) (defScope st) .none kV doc pm an cdv ct) ⟨us, []⟩ = pure (ps.zip us)) : Fnd K mg x st ps :=
  have F := fun_mk l c k
  ⟨f, _, F, PySem.W.mg_of X G a, F.binds hb⟩
theorem fndK_mk (X : K.In h) (G : h.Ns mainGlobals mg) (a : PySem.W.nsIn K mainGlobals x = some (some (.ref f))) (l : K.lookup f = some ⟨oc, od, .func (PySem.W.fnOf x x (defArgs st) (defBody st) (defScope st) .none kV dc pm an cd ct), sl⟩)
    (c : PySem.W.codeIn K cd x = true) (k : PySem.W.keepIn K (.ref f) = true)
    (hb : ∀ (kV doc pm : Value) (an : Option Addr) (cdv ct : Value) (us : List Value), us.length = ps.length → bindArgs (PySem.W.fnOf x x (defArgs st) (defBody st) (defScope st) .none kV doc pm an cdv ct) ⟨us, []⟩ = pure (ps.zip us))
    (hk : ∀ (kV doc pm : Value) (an : Option Addr) (cdv ct : Value) (us ws : List Value), (us ++ ws).length = ps.length → bindArgs (PySem.W.fnOf x x (defArgs st) (defBody st) (defScope st) .none kV doc pm an cdv ct) ⟨us, ps.zip ws⟩ = pure (ps.zip (us ++ ws))) : FndK K mg x st ps :=
  have F := fun_mk l c k
  ⟨f, _, F, PySem.W.mg_of X G a, F.binds hb, ⟨fun _ us ws _ hl => .of_eq (hk _ _ _ _ _ _ us ws hl), fun a b => a.append b⟩⟩
end
end Ur
namespace Ur
theorem one_split {α : Type} {us ws : List α} (h : (us ++ ws).length = 1) : (∃ v, us = [] ∧ ws = [v]) ∨ ∃ v, us = [v] ∧ ws = [] := by
  match us, ws, h with
  | [], [v], _ => exact Or.inl ⟨v, rfl, rfl⟩
  | [v], [], _ => exact Or.inr ⟨v, rfl, rfl⟩
  | [], _ :: _ :: _, h => exact absurd h (by simp)
  | [_], _ :: _, h => exact absurd h (by simp)
  | _ :: _ :: _, _, h => exact absurd h (by simp)
end Ur

namespace Ur
open PySem L2
/-! ### calls by name, the names the other way round -/
def HasR (P : Program) (w : World) (K : PySem.W.Frag) (mg : Str → Option Value) (base : Heap) (x : Str) (ps : List Str) (k : Nat) (sp : Sp) : Prop :=
  ∃ f fd, FnOk P w K mg base CX0 k f fd ps sp ∧ mg x = some (.ref f) ∧ PySem.W.keepIn K (.ref f) = true ∧ ∀ (s : Shared) (ws : List Value), K.In s.heap → ws.length = ps.length → BindsTo s fd ⟨[], ps.reverse.zip ws⟩ (ps.zip ws.reverse)
def tHasR (sp : Sp) (tk : TA) : TE := fun σ H Q => tk σ H fun zs H1 => sp zs.reverse H1 Q E0
theorem vals_rev {vs : List V} {us : List Value} (h : Vals vs us) : Vals vs.reverse us.reverse := by
  induction h with
  | nil => exact .nil
  | cons a b ih =>
    rw [List.reverse_cons,
          List.reverse_cons]
    exact ih.append (.cons a .nil)
theorem pe_hasR0 {X : Cx} {x : Str} {p pos : Pos} {tk : TA} {ps : List Str} {k : Nat} {sp : Sp} {kws : List Keyword} (h : HasR X.prog X.w X.K X.mg X.base x ps k sp) (hr : Room k X.A) (hg : Gl X x) (hkw : PK X kws tk)
    (hall : (backToKw pos (keywordEach kws X.env)).all (·.1.isSome) = true := by rfl) (hks : (backToKw pos (keywordEach kws X.env)).filterMap (·.1) = ps.reverse := by rfl) (hdb : (x == ("__debug__" : Str)) = false := by decide)
    (hpl : ((backTo pos (starEach [] X.env)).any (·.1) || (backToKw pos (keywordEach kws X.env)).any (·.1.isNone)) = false := by rfl) : PE X (.Call (.Name x p) [] kws pos) (tHasR sp tk) := by
  obtain ⟨f, fd, G, m, kp, b⟩ := h
  constructor
  intro pins s σ H Q I hq
  apply wpAny_Call_Name_kw
  apply ld_glob I hg m _ hdb
  apply PySem.W.callWith_KW0 (h₀ := X.base) I.ok.mod.kin kp hall _ hpl
  refine thn (hkw.run pos pins s σ H _ I hq) ?_
  rintro ws s2 ⟨zs, H2, I2, rz, q2⟩
  refine ⟨I2.kIn, ?_⟩
  rw [hks]
  have rr := vals_rev rz
  have hl : ws.length = ps.length := by
    rw [← List.length_reverse (as := ws), ← rr.length]
    exact G.len _ _ _ _ q2
  apply wpAny_call
  refine codeAny_mono (G.run X.A X.stack s2 H2 ⟨[], ps.reverse.zip ws⟩ ws.reverse zs.reverse Q E0 hr I2.env0 (b s2 ws I2.kIn hl) rr q2) ?_
  intro res s' hq
  match res, hq with
  | .error e, hq => exact pass0 pins σ H2 s2 e s' I2 hq
  | .ok (.ret u), hq => exact I2.after hq
/-- some arguments by position, the others by name -/
def HasN (P : Program) (w : World) (K : PySem.W.Frag) (mg : Str → Option Value) (base : Heap) (x : Str) (ps : List Str) (n : Nat) (ks : List Str) (k : Nat) (sp : Sp) : Prop :=
  ∃ f fd, FnOk P w K mg base CX0 k f fd ps sp ∧ mg x = some (.ref f) ∧ PySem.W.keepIn K (.ref f) = true ∧ KBn K fd ps n ks (fun us ws => us ++ ws.reverse) (fun vs zs => vs ++ zs.reverse)
theorem pe_hasN {X : Cx} {x : Str} {p pos : Pos} {e : Expr} {es : List Expr} {t tk : TA} {ps ks : List Str} {n k : Nat} {sp : Sp} {kws : List Keyword} (h : HasN X.prog X.w X.K X.mg X.base x ps n ks k sp) (hr : Room k X.A) (hg : Gl X x)
    (ha : PA X (e :: es) t) (hkw : PK X kws tk) (hall : (backToKw pos (keywordEach kws X.env)).all (·.1.isSome)
          = true := by rfl) (hks : (backToKw pos (keywordEach kws X.env)).filterMap (·.1) = ks := by rfl)
    (hdb : (x == ("__debug__" : Str)) = false := by decide) (he : starEach
          (e :: es) X.env = (false, eval e X.env) :: starEach es X.env := by rfl)
    (hpl : ((backTo pos (starEach (e :: es) X.env)).any (·.1) || (backToKw
          pos (keywordEach kws X.env)).any (·.1.isNone)) = false := by rfl) :
    PE X (.Call (.Name x p) (e :: es) kws pos) (tCallN n ks.length sp (fun vs zs => vs ++ zs.reverse) E0 t tk) := by
  obtain ⟨f, fd, G, m, kp, b⟩ := h
  exact pe_callN G hr hg m kp b pass0 ha hkw hall hks hdb he hpl
/-! ### tuples of ints -/
def Tp (K : PySem.W.Frag) (H : Hp) (v : V) (ns : List Int) : Prop := ∃ a, v = .ref a ∧ SqT K H a (ns.map V.int)
theorem Tp.same {K : PySem.W.Frag} {H H' : Hp} {v : V} {ns : List Int} (s : Same H H') (h : Tp K H v ns) : Tp K H' v ns := by
  obtain ⟨a, e, h⟩ := h
  exact ⟨a, e, same_sqT s h⟩
theorem Tp.dp {K : PySem.W.Frag} {H : Hp} {v : V} {ns : List Int} (h : Tp K H v ns) : Dp K H v (.tuple (ns.map PyData.int)) := by
  obtain ⟨a, rfl, h⟩ := h
  exact dp_ints h
def sp1 (K : PySem.W.Frag) (pre : List Int → Prop) (f : List Int → List Int) : Sp := fun vs H Q _ => ∃ (v : V) (a : List Int), vs = [v] ∧ Tp K H v a ∧ pre a ∧ ∀ p H', Same H H' → Tp K H' p (f a) → Q p H'
def sp2 (K : PySem.W.Frag) (pre : List Int → List Int → Prop) (f : List Int → List Int → List Int) : Sp := fun vs H Q _ => ∃ (v w : V) (a b : List Int), vs = [v, w] ∧ Tp K H v a ∧ Tp K H w b ∧ pre a b ∧ ∀ p H', Same H H' → Tp K H' p (f a b) → Q p H'
def sp3 (K : PySem.W.Frag) (pre : List Int → List Int → List Int → Prop) (f : List Int → List Int → List Int → List Int) : Sp := fun vs H Q _ =>
  ∃ (v w z : V) (a b c : List Int), vs = [v, w, z] ∧ Tp K H v a ∧ Tp K H w b ∧ Tp K H z c ∧ pre a b c ∧ ∀ p H', Same H H' → Tp K H' p (f a b c) → Q p H'
end Ur
namespace Ur
open PySem L2
/-! ### texts of lists of such tuples, of ints -/
def tupD (ns : List Int) : PyData := .tuple (ns.map PyData.int)
structure IntsOk (ds : List PyData) (n : Nat) : Prop where
  ls : PyData.leavesShortAll 13 ds = true
  wt : PyData.weightAll ds ≤ n
  sh : PyData.showableAll ds = true
  hd : PyData.hasDictAll ds = false
  dp : PyData.depthAll ds ≤ 1
theorem log40 {n : Nat} (h : n < 10 ^ 12) : n.log2 + 1 ≤ 40 := by
  by_cases z : n = 0
  · subst z; decide
  · have : n.log2 < 40 := (Nat.log2_lt z).mpr (Nat.lt_of_lt_of_le h (by decide))
    omega
theorem ints_ok : ∀ {ns : List Int}, (∀ n ∈ ns, n.natAbs < 10 ^ 12) → IntsOk (ns.map PyData.int) (41 * ns.length)
  | [], _ => ⟨rfl, Nat.le_refl _, rfl, rfl, Nat.zero_le _⟩
  | n :: r, h => by
    have hn := h n List.mem_cons_self
    obtain ⟨a, b, c, d, e⟩ := ints_ok (ns := r) fun m hm => h m (List.mem_cons_of_mem _ hm)
    have l := log40 hn
    refine ⟨?_, ?_, ?_, ?_, ?_⟩
    · show (decide ((PyData.shown (.int n)).length ≤ 13) && PyData.leavesShortAll 13 (r.map PyData.int)) = true
      rw [a, decide_eq_true (PyData.shown_int_le hn)]
      rfl
    · show (if n == 0 then 0 else n.natAbs.log2 + 1) + 1 + PyData.weightAll (r.map PyData.int) ≤ 41 * (r.length + 1)
      split <;> omega
    · show (decide (n.natAbs.log2 < 1920) && PyData.showableAll (r.map PyData.int)) = true
      rw [c, decide_eq_true (by omega)]
      rfl
    · show (false || PyData.hasDictAll (r.map PyData.int)) = false
      rw [d]
      rfl
    · show max 0 (PyData.depthAll (r.map PyData.int)) ≤ 1
      omega
theorem tups_ok : ∀ {nss : List (List Int)}, (∀ ns ∈ nss, ns.length ≤ 10 ∧ ∀ n ∈ ns, n.natAbs < 10 ^ 12) → IntsOk (nss.map tupD) (411 * nss.length)
  | [], _ => ⟨rfl, Nat.le_refl _, rfl, rfl, Nat.zero_le _⟩
  | ns :: r, h => by
    obtain ⟨hl, hn⟩ := h ns List.mem_cons_self
    obtain ⟨a, b, c, d, e⟩ := tups_ok (nss := r) fun m hm => h m (List.mem_cons_of_mem _ hm)
    obtain ⟨a', b', c', d', e'⟩ := ints_ok hn
    refine ⟨?_, ?_, ?_, ?_, ?_⟩
    · show (PyData.leavesShortAll 13 (ns.map PyData.int) && PyData.leavesShortAll 13 (r.map tupD)) = true
      rw [a, a']
      rfl
    · show PyData.weightAll (ns.map PyData.int) + 1 + PyData.weightAll (r.map tupD) ≤ 411 * (r.length + 1)
      omega
    · show (PyData.showableAll (ns.map PyData.int) && PyData.showableAll (r.map tupD)) = true
      rw [c, c']
      rfl
    · show (PyData.hasDictAll (ns.map PyData.int) || PyData.hasDictAll (r.map tupD)) = false
      rw [d, d']
      rfl
    · show max (PyData.depthAll (ns.map PyData.int) + 1) (PyData.depthAll (r.map tupD)) ≤ 1
      have := depth_ints ns
      omega
/-- what repr asks of a list -/
theorem rep_of {K : PySem.W.Frag} {H : Hp} {a : Addr} {ds : List PyData} {n : Nat} {Q : VK} (hd : Dp K H (.ref a) (.list ds)) (o : IntsOk ds n) (hn : n ≤ 1000000) (q : Q (.str (PyData.shown (.list ds))) H) : rRepr K [.ref a] H Q :=
  ⟨a, .list ds, rfl, hd, o.sh, o.hd, PyData.shown_fits (B := 13) (by decide) (by decide) o.ls (Nat.le_trans o.wt (Nat.le_trans hn (by decide))), by show PyData.depthAll ds + 1 ≤ 60; have := o.dp; omega, q⟩
theorem dpAll_tps {K : PySem.W.Frag} {H : Hp} : ∀ {vs : List V} {nss : List (List Int)}, Paired (Tp K H) vs nss → DpAll K H vs (nss.map tupD)
  | _, _, .nil => .nil
  | _, _, .cons h t => .cons h.dp (dpAll_tps t)
theorem dp_list {K : PySem.W.Frag} {H : Hp} {a : Addr} {vs : List V} {ds : List PyData} (h : H a = some (.lst vs)) (hd : DpAll K H vs ds) : Dp K H (.ref a) (.list ds) := .lst (SqL.of h) hd
theorem fnd_r {K : PySem.W.Frag} {mg : Str → Option Value} {x : Str} {ps : List Str} {P : Program} {w : World} {base : Heap} {k : Nat} {sp : Sp} {f : Addr} {fd : FuncData}
    (G : FnOk P w K mg base CX0 k f fd ps sp) (m : mg x = some (.ref f)) (kp : PySem.W.keepIn K (.ref f) = true)
    (b : ∀ (s : Shared) (ws : List Value), K.In s.heap → ws.length = ps.length → BindsTo s fd ⟨[], ps.reverse.zip ws⟩ (ps.zip ws.reverse)) : HasR P w K mg base x ps k sp := ⟨f, fd, G, m, kp, b⟩
end Ur

namespace Ur
open PySem L2 PyProof.Rows
/-! ### enumerate of a tuple -/
set_option
      maxHeartbeats 1000000 in
theorem enum_one {v : Value} {o : Obj} {G : Heap → Prop} (B : Begins v o G) :
    Meets (Builtin.«enumerate.__new__» ⟨[.type "enumerate", v], []⟩) (fun _ R s => G s.heap ∧ R (.ok (.ret (.ref (s.heap.push o).objs.size)))
      { s with heap := (s.heap.push o).push { cls := .type "enumerate", data := .fields #[.none, .bool false, .ref s.heap.objs.size, rawInt 0, .none, .none] } }) :=
  .of_wp fun prog
        w A R s h => by
    obtain ⟨hp, g,
          d, tk, os⟩ := s
    obtain ⟨g1, h⟩ := h
    have hs := sub_enumerate
    have it1 : ∀ {A2 : Around} {E : Value → Shared → Prop} {Q : Value → Shared → Prop}, Q (.ref hp.objs.size) ⟨hp.push o, g, d, tk, os⟩ → wpAny (model prog w) A2 (pyIter v) Q E ⟨hp, g, d, tk, os⟩ :=
      fun q => B.iter prog w _ _ ⟨hp, g, d, tk, os⟩ _ g1 q
    wp_walk
    refine wpAny_stack_any
          fun st => wpAny_pure ?_
    split
    · rename_i c _ _ _ _ _
      cases (c == Value.type "enumerate") <;> (wp_walk using it1; exact ⟨_, rfl, h⟩)
    · wp_walk using it1
      exact ⟨_, rfl, h⟩
section
variable {prog : Program} {w : World} {A :
      Around} {E : Value → Shared → Prop} {s : Shared}
theorem call_enum_tup {t : Addr} {items : Array Value} {Q : Value → Shared → Prop} (ht : s.heap.IsTuple t items)
    (k : ∀ h', IsEnum h' (s.heap.objs.size + 1) s.heap.objs.size 0 .none → h'.IsTupleIter s.heap.objs.size t 0 → h'.objs.size = s.heap.objs.size + 2 →
      (∀ b o, s.heap.get? b = some o → h'.get? b = some o) → Q (.ref (s.heap.objs.size + 1)) { s with heap := h' }) : wpAny (model prog w) A (call (.type "enumerate") [.ref t]) Q E s := by
  have B := begins_tuple t items
  refine callType_new F.called_enumerate (by decide) (F.typeCall_enumerate_1 _) (F.newCall_enumerate_1 _) (fun obj => F.args_object_init_2 obj _) F.entry_enumerate_new (enum_one B) ⟨ht, ?_⟩
  generalize ho : ({ cls := .type "tuple_iterator", data := .fields #[.ref t, .int 0 0] } : Obj) = o at B
  have hz : (s.heap.push o).objs.size =
        s.heap.objs.size + 1 := Heap.size_push ..
  show _ ∧ _
  rw [hz]
  have he := Heap.get?_push_size (s.heap.push o) (o := { cls := .type "enumerate", data := .fields #[.none, .bool false, .ref s.heap.objs.size, rawInt 0, .none, .none] }) rfl
  rw [hz] at he
  have hi := Heap.get?_push_of_some { cls := .type "enumerate", data := .fields #[.none, .bool false, .ref s.heap.objs.size, rawInt 0, .none, .none] } (Heap.get?_push_size s.heap B.free)
  exact ⟨⟨_, he, rfl⟩, k _ he ⟨o, hi, by rw [← ho], by rw [← ho]; rfl⟩ (by rw [Heap.size_push, hz]) fun b o x => Heap.get?_push_of_some _ (Heap.get?_push_of_some _ x)⟩
end
def IteT (K : PySem.W.Frag) (a : Addr) : L2.It :=
  ⟨fun i H => ∃ (xs : List V) (x : V), SqT K H a xs ∧ xs[i]? = some x, fun i H v H' => ∃ T x, v = .ref T ∧ H T = none ∧ H' = upd H T (.tup [.int (i : Nat), x]) ∧ ∀ xs, SqT K H a xs → xs[i]? = some x, fun i H => ∃ xs : List V, SqT K H a xs ∧ xs.length = i⟩
theorem turn_enumT {P : Program} {w : World} {K : PySem.W.Frag} {elts : List Expr} {kk : Nat} {tpos : Pos} (a e it : Addr) :
    Turn P w K (.Tuple elts kk tpos) (IteT K a) [e, it] e (fun i h => (∃ old, IsEnum h e it ((i : Nat) : Int) old) ∧ h.IsTupleIter it a i ∧ e ≠ it) where
  mem := by simp
  obj := fun i h st b hb => by
    obtain ⟨⟨old, he⟩, ⟨o,
          ho, hc, hd⟩, _⟩ := st
    rcases (by simpa using hb : b = e ∨ b = it) with z | z
    · rw [z]
      exact ⟨_, he, fun v q => nomatch q⟩
    · rw [z]
      exact ⟨o, ho, fun v q => by rw [hd] at q; cases q⟩
  keep := fun i h h' st k => by
    obtain ⟨⟨old, he⟩, hi, hne⟩ := st
    exact ⟨⟨old, k e (by simp) _ he⟩, hi.at fun o q => k it (by simp) o q, hne⟩
  item := by
    intro X hP hw hK hc i
          pins s σ H E I hf st hg
    subst hP hw hK
    obtain ⟨⟨old, he⟩,
          hit, hne⟩ := st
    obtain ⟨xs, x, hq, hx⟩ := hg
    obtain ⟨its, rv, p,
          hz⟩ := I.tuple hq
    obtain ⟨u, hu,
          ru⟩ := rv.get hx
    have hel : e < s.heap.objs.size
          := Heap.lt_size he
    have hil : it < s.heap.objs.size := by
      obtain ⟨_, q, _⟩ := hit
      exact Heap.lt_size q
    have hat : a ≠ it := by
      rintro rfl
      obtain ⟨o, e1, c1, _⟩ := p
      obtain ⟨o', e2, c2, _⟩ := hit
      rw [e1] at e2
      cases e2
      rw [c1] at c2
      exact absurd (Value.type.inj c2) (by decide)
    have hae : e ≠ a := by
      rintro rfl
      obtain ⟨o, e1, c1, _⟩ := p
      have e2 : s.heap.get? e = _ := he
      rw [e1] at e2
      cases e2
      exact absurd (Value.type.inj c1) (by decide)
    have hlt : i < its.toArray.size := by
      have := (Array.getElem?_eq_some_iff.mp (by simpa using hu : its.toArray[i]? = some u)).1
      exact this
    refine wpAny_pyNext_enum_itemD (Draws.tuple (prog := X.prog) (w := X.w) (A := X.A.in1) (I.ok.hd hc) it a hat its.toArray) he ⟨hit, p⟩ hlt hne (by simp [hne, hae]) fun x' h' tk hpx ho st' hT hsz hk => ?_
    obtain rfl : x' = u := by
      have e1 : its.toArray[i]? = some u := by simpa using hu
      exact (Option.some.inj (hpx.symm.trans e1))
    refine ⟨_, rfl, wpAny_letOwnedTupleGo_enum (s := { s with heap := h', toks := tk + 1 }) ho fun h'' he' sb => ?_⟩
    have hT2 : h''.get? s.heap.objs.size = some { cls := .type "tuple", data := .seq #[.int i tk, x'] } := (sb.2 _ (Nat.ne_of_gt hel)).trans hT
    have new : ObjOk X.prog X.w (upd H s.heap.objs.size (.tup [.int (i
          : Nat), x])) h'' s.heap.objs.size (.tup [.int (i : Nat), x]) :=
      ⟨by show 2 ≤ sizeLine; decide, [.int i tk, x'], .cons ⟨_, rfl⟩ (.cons ru .nil), ⟨_, hT2, rfl, _, rfl⟩⟩
    have I1 : Inv X pins σ (upd H s.heap.objs.size (.tup [.int (i : Nat), x])) { s with heap := h'', toks := tk + 1 } :=
      I.turnedNew (ch := [e, it]) (fun b ob hb q => (sb.2 b (fun z => hb (by simp [z]))).trans
            (hk b ob (fun z => hb (by simp [z])) (fun z => hb (by simp [z])) q)) hf (Nat.le_refl _) new
    refine ⟨.ref s.heap.objs.size, _, I1, rfl, ⟨_, x, rfl, I.hok.fresh (Nat.le_refl _), rfl, fun ys hy => by rw [I.tuple_inj hy hq]; exact hx⟩, ⟨⟨x', ?_⟩, st'.1.at fun o q => (sb.2 it (Ne.symm hne)).trans q, hne⟩, fun b hb => ?_⟩
    · have e1 : ((i + 1 : Nat) :
          Int) = (i : Int) + 1 := by omega
      rw [e1]
      exact he'
    · have hb' : b <
          s.heap.objs.size := by
        rcases (by simpa using hb : b = e ∨ b = it) with z | z
        · rw [z]; exact hel
        · rw [z]; exact hil
      rw [upd_ne
            (Nat.ne_of_lt hb')]
      exact (hf b hb).1
  done := by
    intro X hP hw hK hc i
          pins s σ H E I hf st hg
    subst hP hw hK
    obtain ⟨⟨old, he⟩,
          hit, hne⟩ := st
    obtain ⟨xs, hq, hx⟩ := hg
    obtain ⟨its, rv, p,
          hz⟩ := I.tuple hq
    obtain ⟨f0, f1, f2, f3,
          f4, f5⟩ := hf it (by simp)
    have hl := rv.length
    have hat : a ≠ it := by
      rintro rfl
      obtain ⟨o, e1, c1, _⟩ := p
      obtain ⟨o', e2, c2, _⟩ := hit
      rw [e1] at e2
      cases e2
      rw [c1] at c2
      exact absurd (Value.type.inj c2) (by decide)
    have hi : i = its.toArray.size := by
      rw [List.size_toArray, ← hl]
      exact hx.symm
    subst hi
    exact wpAny_pyNext_enum_endD (Draws.tuple (prog := X.prog) (w := X.w) (A := X.A.in1) (I.ok.hd hc) it a hat its.toArray) he ⟨hit, p⟩ fun h' eb => ⟨rfl, I.turned (t' := s.toks) (fun b o hb q => eb b o hb q) f0 f1 f3 f4 f5⟩
  self := fun A i
        s Q E st h => by
    obtain ⟨⟨_, he⟩, _⟩ := st
    exact wpAny_pyIter_enum he h
def iEnumT (K : PySem.W.Frag) (ta : TA) : TI := fun σ H R => ta σ H fun vs H1 => ∃ a xs, vs = [.ref a] ∧ SqT K H1 a xs ∧ R (IteT K a) H1
theorem pi_enumT {X : Cx} {e : Expr} {ta : TA} {p pos tpos : Pos} {elts : List Expr} {kk : Nat} (hg : Gl X "enumerate") (hm : X.mg "enumerate" = none) (ha : PA X [e] ta) (hs : starEach [e] X.env = [(false, eval e X.env)] := by rfl) :
    PI X (.Tuple elts kk tpos) (.Call (.Name "enumerate" p) [e] [] pos) (iEnumT X.K ta) := by
  refine ⟨fun pins
        s σ H R I h => ?_⟩
  refine Call_ (ld_blt I hg hm boot_enumerate (PyProof.Rows.callWith_type1 (thn
        (ha.run pos pins s σ H _ I h) fun us s1 ⟨vs, H1, I1, r1, q1⟩ => ?_) hs rfl))
  obtain ⟨a, xs,
        ex, hq, q⟩ := q1
  subst ex
  cases r1 with
  | cons r rr =>
    cases rr
    cases r
    obtain ⟨its, rv, p', hz⟩ := I1.tuple hq
    refine call_enum_tup p' fun h' he hit hsz hk => wpAny_pyIter_enum he ?_
    have I2 : Inv X pins σ H1 { s1 with heap
          := h' } := I1.kept (t' := s1.toks) hk
    refine ⟨s1.heap.objs.size + 1, [s1.heap.objs.size + 1, s1.heap.objs.size], _, _, H1, rfl, I2, turn_enumT a (s1.heap.objs.size + 1) s1.heap.objs.size, ⟨⟨.none, he⟩, hit, Nat.succ_ne_self _⟩, fun b hb => ?_, q⟩
    have hle :
          s1.heap.objs.size ≤ b := by
      rcases (by simpa using hb : b = s1.heap.objs.size + 1 ∨ b = s1.heap.objs.size) with z | z
      · rw [z]; exact
            Nat.le_add_right _ _
      · rw [z]; exact Nat.le_refl _
    exact I1.fpOk hle
          (I1.hok.fresh hle)
end Ur

namespace Ur
open PySem L2 PyProof.Rows
/-! ### the other laws' pot: own number, stir, count -/
structure Bp (a b c : Int) : Prop where
  a0 : 0 ≤ a
  b0 : 0 ≤ b
  b1 : b < 4294967296
  c0 : 0 ≤ c
def PotO (u : Addr) : HO := .ext fun h => ∃ (a b c : Int) (its : List Value) (n : Nat), Bp a b c ∧ Vals (nums a b c) its ∧ h.get? u = some { cls := .type "list", data := .seq its.toArray n }
section
variable {X : Cx} {pins : List (Addr × Obj)} {σ : L2.St} {H : Hp} {s : Shared} {u : Addr}
theorem potOpen (I : Inv X pins σ H s) (h : H u = some (PotO u)) : ∃ a b c, Bp a b c ∧ Inv X pins σ (upd H u (.lst (nums a b c))) s := by
  obtain ⟨⟨a, b, c, its, n, B, r, e⟩, _⟩ := I.hok u _ h
  refine ⟨a, b, c, B, I.write (x := u) (e := u) (t' := s.toks) (h' := s.heap) (by rw [h]; exact trivial) (.inl rfl) (fun b v _ q => q) ⟨_, e⟩ ?_⟩
  exact ⟨by show 3 ≤ sizeLine; decide, its, n, r, e⟩
theorem potShut {a b c : Int} (I : Inv X pins σ H s) (h : H u = some (.lst (nums a b c))) (B : Bp a b c) : Inv X pins σ (upd H u (PotO u)) s := by
  obtain ⟨_, its, n, r, e⟩ := I.hok u _ h
  refine I.write (x := u) (e := u) (t' := s.toks) (h' := s.heap) (by rw [h]; exact trivial) (.inl rfl) (fun b v _ q => q) ⟨_, e⟩ ?_
  exact ⟨⟨a, b, c, its, n, B, r, e⟩, ⟨_, e⟩, fun h1 h2 ⟨a, b, c, its, n, B, r, e⟩ k => ⟨a, b, c, its, n, B, r, k _ e⟩⟩
end
def ShutP (u : Addr) (Q : Hp → Prop) (H : Hp) : Prop := ∃ a b c, Bp a b c ∧ H u = some (.lst (nums a b c)) ∧ Q (upd H u (PotO u))
def tPot (t : TS) : TS := fun D σ H => ∃ u, H u = some (PotO u) ∧ ∀ a b c, Bp a b c → t ⟨fun σ' H' => ShutP u (D.nx σ') H', fun v H' => ShutP u (D.rt v) H', fun σ' H' => ShutP u (D.bk σ') H', fun σ' H' => ShutP u (D.ct σ') H'⟩ σ (upd H u (.lst (nums a b c)))
def tShutP (t : TE) : TE := fun σ H Q => t σ H fun v H1 => ∃ u, v = .ref u ∧ ShutP u (Q v) H1
section
variable {X : Cx}
theorem pss_pot {sts : List Stmt} {t : TS} (h : PSs X sts t) : PSs X sts (tPot t) := by
  refine ⟨fun pins s
        σ H D I hw => ?_⟩
  obtain ⟨u, hu, hw⟩ := hw
  obtain ⟨a, b, c, B, I1⟩ := potOpen I hu
  refine thn (h.run pins s σ _ _ I1 (hw a b c B)) fun f s1 q => ?_
  cases f with
  | next => obtain ⟨σ', H', I2, a, b, c, B, e, q⟩ := q; exact ⟨σ', _, potShut I2 e B, q⟩
  | brk => obtain ⟨σ', H', I2, a, b, c, B, e, q⟩ := q; exact ⟨σ', _, potShut I2 e B, q⟩
  | cont => obtain ⟨σ', H', I2, a, b, c, B, e, q⟩ := q; exact ⟨σ', _, potShut I2 e B, q⟩
  | ret v => obtain ⟨x, σ', H', I2, r, a, b, c, B, e, q⟩ := q; exact ⟨x, σ', _, potShut I2 e B, r, q⟩
theorem pe_shutP {e : Expr} {t : TE} (h : PE X e t) : PE X e (tShutP t) := by
  refine ⟨fun pins s
        σ H Q I hw => ?_⟩
  refine thn (h.run pins s σ _ _ I hw) fun v s1 ⟨x, H1, I2, r, u, e1, a, b, c, B, e2, q⟩ => ?_
  exact ⟨x, _, potShut I2 e2 B, r, q⟩
end
/-! ### enumerate, walked -/
theorem walk_enumT {K : PySem.W.Frag} {a : Addr} {xs : List V} : Walk (IteT K a) xs.length (fun H => SqT K H a xs) (fun i H v H' => ∃ T x, v = .ref T ∧ H T = none ∧ H' = upd H T (.tup [.int (i : Nat), x]) ∧ xs[i]? = some x) where
  goes := fun i H hi h => ⟨xs, xs[i], h, by simp [hi]⟩
  stops := fun H h => ⟨xs, h, rfl⟩
  yields := fun i H v H' _ h ⟨T, x, e, n, u, q⟩ => ⟨T, x, e, n, u, q xs h⟩
end Ur

namespace K6
open PySem L2 Ur
def top (i : Nat) : Stmt := PySem.Challenge.pw_hullrests_k36_whole_common_factors.main.body.getD i (.Pass ⟨0, 0, 0, 0⟩)
structure Bl (mg : Str → Option Value) : Prop where
  int : mg "int" = none
  abs : mg "abs" = none
  len : mg "len" = none
  max : mg "max" = none
  min : mg "min" = none
  divmod : mg "divmod" = none
  range : mg "range" = none
  tuple : mg "tuple" = none
  list : mg "list" = none
  isinstance : mg "isinstance" = none
  bool : mg "bool" = none
  all : mg "all" = none
  repr : mg "repr" = none
  sum : mg "sum" = none
  enumerate : mg "enumerate" = none
  reversed : mg "reversed" = none
abbrev sCom : Stmt := top 7
abbrev sWhole : Stmt := top 9
abbrev sWholes : Stmt := top 10
abbrev sNumsF : Stmt := top 11
abbrev sRowF : Stmt := top 12
abbrev sChkR : Stmt := top 14
abbrev sTrim : Stmt := top 16
abbrev sRShort : Stmt := top 18
abbrev sPot : Stmt := top 26
abbrev sDraw : Stmt := top 27
abbrev sOf : Stmt := top 28
abbrev sFrom : Stmt := top 29
abbrev sLCom : Stmt := top 30
abbrev sLShort : Stmt := top 31
abbrev sLTrim : Stmt := top 32
abbrev sLMult : Stmt := top 33
abbrev sLRow : Stmt := top 35
abbrev sRight : Stmt := top 38
abbrev sLaw : Stmt := top 39
section
variable {P : Program} {w : World} {K :
      PySem.W.Frag} {mg : Str → Option Value} {base : Heap}
def gAll (ns : List Int) : Nat := ns.foldl (fun g n => Nat.gcd g n.natAbs) 0
def thin (ns : List Int) : List Int := if gAll ns < 2 then ns else ns.map fun n => n / (gAll ns : Int)
theorem take_next {α : Type} {l : List α} {i : Nat} {x : α}
      (h : l[i]? = some x) : l.take (i + 1) = l.take i ++ [x] := by
  obtain ⟨hi, rfl⟩ := List.getElem?_eq_some_iff.mp h
  exact List.take_succ_eq_append_getElem hi
theorem gAll_next {ns : List Int} {i : Nat} {z : Int} (h : ns[i]? = some z) : gAll (ns.take (i + 1)) = Nat.gcd (gAll (ns.take i)) z.natAbs := by
  unfold gAll
  rw [take_next h, List.foldl_append]
  rfl
theorem gAll_big : ∀ (ns : List Int) (g : Nat), g < 2 ^ 9000 → (∀ n ∈ ns, n.natAbs < 2 ^ 9000) → ns.foldl (fun g n => Nat.gcd g n.natAbs) g < 2 ^ 9000
  | [], g, h, _ => h
  | n :: r, g, h, hs => by
    refine gAll_big r _ ?_ fun m hm => hs m (List.mem_cons_of_mem _ hm)
    have hn := hs n List.mem_cons_self
    show Nat.gcd g n.natAbs < 2 ^ 9000
    by_cases z : g = 0
    · rw [z, Nat.gcd_zero_left]; exact hn
    · exact Nat.lt_of_le_of_lt (Nat.gcd_le_left _ (Nat.pos_of_ne_zero z)) h
theorem big0 : 0 < 2 ^ 9000 := Nat.pow_pos (by decide)
theorem abs_nat (z : Int) : (if z < 0 then -z else z) = ((z.natAbs : Nat) : Int) := by
  split <;> omega
def isFr : List V → Bool
  | [.int n, .int m] => decide (0 < m) && decide (Nat.gcd n.natAbs m.natAbs = 1)
  | _ => false
theorem ns_len {n : Nat} {ns : List Int} (h : decide (V.int ((ns.map V.int).length : Int) = V.int (n : Int)) = true) : ns.length = n := by
  have e := V.int.inj (of_decide_eq_true h)
  rw [List.length_map] at e
  omega
theorem not_len {n : Nat} {ns : List Int} (h : ¬ decide (V.int ((ns.map V.int).length : Int) = V.int (n : Int)) = true) : ns.length ≠ n := fun e => h (decide_eq_true (by rw [List.length_map, e]))
theorem fr_no {ns : List Int} (h : ns.length ≠ 2) : isFr (ns.map V.int) = false := by
  match ns, h with
  | [], _ => rfl
  | [_], _ => rfl
  | _ :: _ :: _ :: _, _ => rfl
theorem fr_wh : ∀ {xs : List V}, isFr xs = true → xs.all wh = true
  | [.int n, .int m], _ => rfl
theorem of_wh {g : List V → Bool} (hg : ∀ {xs : List V}, g xs = true → xs.all wh = true) {xs : List V} (h : xs.all wh = false) : g xs = false := by
  cases e : g xs with
  | false => rfl
  | true => rw [hg e] at h; cases h
abbrev n_common_divisor : List Str := ["numbers", "found", "number"]
abbrev p_common_divisor : List Str := ["numbers"]
theorem sc_common_divisor : FnScope n_common_divisor p_common_divisor (defScope sCom) := ⟨rfl, rfl, rfl, by decide +kernel, rfl, by decide +kernel, by decide +kernel⟩
def spCom (K : PySem.W.Frag) : Sp := fun vs H Q _ => ∃ (t : Addr) (ns : List Int), vs = [.ref t] ∧ SqT K H t (ns.map V.int) ∧ Q (.int (gAll ns : Nat)) H
theorem ok_com {f : Addr} {fd : FuncData} (F : Fun K "common_divisor" "common_divisor" sCom f fd) (mG : mg "gcd" = some (.builtin "math.gcd")) : FnOk P w K mg base CX0 1 f fd p_common_divisor (spCom K) := by
  refine F.ok sc_common_divisor (fun vs H Q E h => ?_) (fun cdv A outer s H vs Q E hr h => ?_)
  · obtain ⟨t, ns, rfl, _⟩ := h
    rfl
  · obtain ⟨t, ns, rfl, hS, k⟩ := h
    refine ⟨_, (pss_cons (ps_set (i := 1) sc_common_divisor.nd rfl (Or.inl rfl) pe_int)
      (pss_cons (ps_for PassesOwn.never rfl (pi_tup (pv 0)) (pg_name (i := 2) sc_common_divisor.nd rfl (Or.inl rfl)) (pss_one (ps_set (i := 1) sc_common_divisor.nd rfl (Or.inl rfl) (pe_callBfun cr_gcd (by rfl) mG (pa_cons (pv 1) (pa_cons (pv 2) pa_nil))))))
      (pss_one (ps_ret (pv 1))))), ?_⟩
    refine ⟨_, rfl, t, rfl, ⟨_, hS⟩, for_tup (K := K) (a := t) (xs := ns.map V.int) (fun i σ H' => ∃ v : Option V, σ = [some (.ref t), some (.int (gAll (ns.take i) : Nat)), v] ∧ H' = H) ⟨none, rfl, rfl⟩ (fun i σ H' _ ⟨_, _, e⟩ => e ▸ hS) ?_ ?_⟩
    · rintro i y σ H' hi ⟨v, rfl, rfl⟩
      obtain ⟨z, hz, rfl⟩ := map_at hi
      refine ⟨_, rfl, _, rfl, _, _, rfl, some (V.int z), ?_, rfl⟩
      rw [gAll_next hz, Int.natAbs_natCast]
      rfl
    · rintro σ H' ⟨v, rfl, rfl⟩
      rw [List.length_map,
            List.take_length]
      exact ⟨_, rfl, k⟩
def spWhole (K : PySem.W.Frag) : Sp := fun vs H Q _ => ∃ (x : V) (k : Kd), vs = [x] ∧ OfKd K H x k ∧ Q (.bl (wh x)) H
theorem whole_read {K : PySem.W.Frag} {x : V} {k : Kd} {H : Hp} {Q : VK} (hx : OfKd K H x k) (q : Q (.bl (wh x)) H) :
    tRet (tAndV (tCB (rIsi K) (tCons (tVar 0) (tCons (tC (.ty "int")) tNil))) (tNotV (tCB (rIsi K) (tCons (tVar 0) (tCons (tC (.ty "bool")) tNil))))) { nx := fun _ H' => Q .non H', rt := Q } [some x] H := by
  refine ⟨x, rfl, x, _, _, _, _, rfl, .ty "int", hx, kit_ty (kd_int k), _, rfl, ?_⟩
  have ew := ofKd_wh hx
  refine ite2 (fun c
        => ?_) (fun c => ?_)
  · refine ⟨x, rfl, x, _, _, _, _, rfl, .ty "bool", hx, kit_ty (kd_bool k), _, rfl, ?_⟩
    have : (!(k == Kd.bool)) = wh x := by
      rw [← ew]
      cases k <;> first | rfl | (exact absurd c (by decide))
    rw [this]
    exact q
  · have : false = wh x := by
      rw [← ew]
      cases k <;> first | rfl | (exact absurd rfl c)
    rw [this]
    exact q
abbrev n_is_whole : List Str := ["value"]
theorem sc_is_whole : FnScope n_is_whole n_is_whole (defScope sWhole) := ⟨rfl, rfl, rfl, by decide +kernel, rfl, by decide +kernel, by decide +kernel⟩
theorem ok_whole {f : Addr} {fd : FuncData} (F : Fun K "is_whole" "is_whole" sWhole f fd) (T : Bl mg) : FnOk P w K mg base CX0 1 f fd n_is_whole (spWhole K) := by
  refine F.ok sc_is_whole (fun vs H Q E h => ?_) (fun cdv A outer s H vs Q E hr h => ?_)
  · obtain ⟨x, k, rfl, _⟩ := h
    rfl
  · obtain ⟨x, k, rfl, hx, q⟩ := h
    exact ⟨_, (pss_one (ps_ret (pe_and (pe_callB call_isi (by rfl) T.isinstance PyProof.Rows.boot_isinstance (pa_cons (pv 0) (pa_cons (pe_bltn (v := .ty "int") (by rfl) T.int PyProof.Rows.boot_int rfl) pa_nil))) (pe_one (pe_not (pe_callB call_isi (by rfl) T.isinstance PyProof.Rows.boot_isinstance (pa_cons (pv 0) (pa_cons (pe_bltn (v := .ty "bool") (by rfl) T.bool PyProof.Rows.boot_bool rfl) pa_nil)))))))), whole_read hx q⟩
abbrev n_wholes_fit : List Str := ["value", "number"]
abbrev p_wholes_fit : List Str := ["value"]
theorem sc_wholes_fit : FnScope n_wholes_fit p_wholes_fit (defScope sWholes) := ⟨rfl, rfl, rfl, by decide +kernel, rfl, by decide +kernel, by decide +kernel⟩
/-- told of a value of any kind -/
def spTold (K : PySem.W.Frag) (g : List V → Bool) : Sp := fun vs H Q _ => ∃ (x : V) (k : Kd) (xs : List V), vs = [x] ∧ Arg K H x k xs ∧ ∀ H' : Hp, Same H H' → Q (.bl (k == .tup && g xs)) H'
theorem kd_ne {k : Kd} {b : Bool} (c : ¬ (k == Kd.tup) = true) : (k == Kd.tup && b) = false := by
  cases h : (k == Kd.tup) with
  | true => exact absurd h c
  | false => rfl
theorem ok_wholes {f : Addr} {fd : FuncData} (F : Fun K "wholes_fit" "wholes_fit" sWholes f fd) (T : Bl mg) (H_is_whole : Has P w K mg base "is_whole" n_is_whole 1 (spWhole K)) : FnOk P w K mg base CX0 2 f fd p_wholes_fit (spTold K fun xs => xs.all wh) := by
  refine F.ok sc_wholes_fit (fun vs H Q E h => ?_) (fun cdv A outer s H vs Q E hr h => ?_)
  · obtain ⟨x, k, xs, rfl, _⟩ := h
    rfl
  · obtain ⟨x, k, xs, rfl, A1, q⟩ := h
    refine ⟨_, (pss_one (ps_ret (pe_and (pe_callB call_isi (by rfl) T.isinstance PyProof.Rows.boot_isinstance (pa_cons (pv 0) (pa_cons (pe_bltn (v := .ty "tuple") (by rfl) T.tuple PyProof.Rows.boot_tuple rfl) pa_nil))) (pe_one (pe_callB (cr_all rfl) (by rfl) T.all PyProof.Rows.boot_all (pa_cons (pe_lc (own := [("number", 1)]) (g := gName 1) (tt := tYes) rfl sc_wholes_fit.nd (pi_tup (pv 0)) (blkOk_by (N := n_wholes_fit) (sc := defScope sWholes) (by decide +kernel)) (fun _ _ _ _ _ => pg_name (i := 1) sc_wholes_fit.nd rfl (Or.inl rfl)) (fun _ _ _ _ _ => pts_nil) (fun _ _ _ _ _ => (pe_has H_is_whole (hr.mono (by decide)) (by rfl) (pa_cons (pv 1) pa_nil)))) pa_nil)))))), ?_⟩
    refine ⟨x, rfl, x, _, _, _, _, rfl, .ty "tuple", A1.ty, kit_ty (kd_tup k), _, rfl, ?_⟩
    refine ite2 (fun c
          => ?_) (fun c => ?_)
    · obtain ⟨a, rfl, hS, hl, hk, hb⟩ := A1.its (by simpa using c)
      unfold tCB tCons tNil
      dsimp only
      refine lcT (K := K) (a := a) (xs := xs) (fun i y => ∃ z, xs[i]? = some z ∧ y = .bl (wh z)) (fun R r => ⟨_, rfl, r⟩) hS (by omega) (fun x => rfl) (fun i z H3 hi sm Q' q' => ?_) (fun D ys H2 hD sm hy e1 e2 => ?_)
      · obtain ⟨l, hl⟩ := (hk z (List.mem_of_getElem? hi)).kd
        exact ⟨z, rfl, z, l, rfl, ofKd_same sm hl, q' _ _ ⟨z, hi, rfl⟩ (Same.refl _)⟩
      · have ey : ys = (xs.map wh).map V.bl := by
          apply List.ext_getElem?
          intro i
          cases h : ys[i]? with
          | none =>
            have := List.getElem?_eq_none_iff.mp h
            rw [List.getElem?_eq_none (by simp at e1 ⊢; omega)]
          | some y =>
            obtain ⟨z, hz, rfl⟩ := e2 i y h
            simp [hz]
        rw [ey] at hy
        refine ⟨D, xs.map wh, rfl, SqL.of hy, ?_⟩
        have e3 : (xs.map wh).all id = (k == Kd.tup && xs.all wh) := by
          rw [c, List.all_map]
          rfl
        rw [e3]
        exact q H2 sm
    · have := q H (Same.refl H)
      rw [kd_ne c] at this
      exact this
abbrev n_value : List Str := ["value"]
theorem fr_len : ∀ {xs : List V}, isFr xs = true → xs.length = 2 ∧ xs.all wh = true
  | [.int n, .int m], _ => ⟨rfl, rfl⟩
theorem thin_eq {ns : List Int} (h : 0 < gAll ns) : thin ns = ns.map fun n => n / (gAll ns : Int) := by
  unfold thin
  split
  · have : gAll ns = 1 := by omega
    rw [this]
    show ns = ns.map fun n => n / 1
    simp
  · rfl
theorem gAll_2 (a b : Int) : gAll [a, b] = Nat.gcd a.natAbs b.natAbs := by
  show Nat.gcd (Nat.gcd 0 a.natAbs) b.natAbs = _
  rw [Nat.gcd_zero_left]
theorem g2_pos {x w : Int} (h : 0 < w) : 0 < gAll [x, w] := by
  rw [gAll_2]
  exact Nat.gcd_pos_of_pos_right _ (by omega)
theorem ex_div {g : Nat} {x : Int} (h : g ∣ x.natAbs) : ∃ q : Int, x = (g : Int) * q := Int.ofNat_dvd_left.mpr h
theorem thin2 {x w : Int} (h : 0 < w) : ∃ (g p r : Int), 0 < g ∧ x = g * p ∧ w = g * r ∧ thin [x, w] = [p, r] ∧ Nat.gcd p.natAbs r.natAbs = 1 := by
  have hg := g2_pos (x := x) h
  have e := thin_eq hg
  obtain ⟨p, hp⟩ := ex_div (g := gAll [x, w]) (x := x) (by rw [gAll_2]; exact Nat.gcd_dvd_left _ _)
  obtain ⟨r, hr⟩ := ex_div (g := gAll [x, w]) (x := w) (by rw [gAll_2]; exact Nat.gcd_dvd_right _ _)
  have h3 := gAll_2 x w
  generalize gAll [x, w] = g at *
  have hg' : (g : Int) ≠ 0 := by omega
  refine ⟨g, p, r, by omega, hp, hr, ?_, ?_⟩
  · rw [e]
    show [x / (g : Int), w / (g : Int)] = _
    rw [hp, hr, Int.mul_ediv_cancel_left _ hg', Int.mul_ediv_cancel_left _ hg']
  · rw [hp, hr, Int.natAbs_mul, Int.natAbs_mul, Int.natAbs_natCast, Nat.gcd_mul_left] at h3
    have : g * 1 = g * Nat.gcd p.natAbs r.natAbs := by rw [Nat.mul_one]; exact h3
    exact (Nat.eq_of_mul_eq_mul_left hg this).symm
theorem pos_of {g r : Int} (hg : 0 < g) (h : 0 < g * r) : 0 < r := Int.pos_of_mul_pos_right h hg
theorem abs_le {g p : Int} {n : Nat} (hg : 0 < g) (h : (g * p).natAbs ≤ n) : p.natAbs ≤ n := by
  rw [Int.natAbs_mul] at h
  have : 1 * p.natAbs ≤ g.natAbs * p.natAbs := Nat.mul_le_mul_right _ (by omega)
  omega
end
end K6

namespace K6
open PySem L2 Ur
/-! ### rows without noughts at their end -/
def trimL : List Int → List Int
  | [] => []
  | x :: r => if trimL r = [] ∧ x = 0 then [] else x :: trimL r
theorem trim_snoc0 : ∀ l : List Int, trimL (l ++ [0]) = trimL l
  | [] => by simp [trimL]
  | x :: r => by
    show (if trimL (r ++ [0]) = [] ∧ x = 0 then [] else x :: trimL (r ++ [0])) = _
    rw [trim_snoc0 r]
    rfl
theorem trim_snoc {x : Int} (h : x ≠ 0) : ∀ l : List Int, trimL (l ++ [x]) = l ++ [x]
  | [] => by simp [trimL, h]
  | y :: r => by
    show (if trimL (r ++ [x]) = [] ∧ y = 0 then [] else y :: trimL (r ++ [x])) = _
    rw [trim_snoc h r, if_neg (by simp)]
    rfl
theorem trim_mem {z : Int} : ∀ {l : List Int}, z ∈ trimL l → z ∈ l
  | x :: r, h => by
    unfold trimL at h
    split at h
    · cases h
    · rcases List.mem_cons.mp
          h with rfl | h
      · exact List.mem_cons_self
      · exact List.mem_cons_of_mem _ (trim_mem h)
theorem trim_len : ∀ l : List Int, (trimL l).length ≤ l.length
  | [] => Nat.le_refl _
  | x :: r => by
    unfold trimL
    split
    · exact Nat.zero_le _
    · exact Nat.succ_le_succ (trim_len r)
theorem take_last {ns : List Int} {m : Nat} {x : Int} (h : ns[m]? = some x) : ns.take (m + 1) = ns.take m ++ [x] := take_next h
/-! ### told of values -/
def isNums (xs : List V) : Bool := decide (xs.length ≤ 13) && xs.all wh
def lastOk (xs : List V) : Bool := match xs.getLast? with
  | some (.int i) => decide (i ≠ 0)
  | _ => true
def isRw (xs : List V) : Bool := isNums xs && lastOk xs
theorem ints_all : ∀ {xs : List V}, xs.all wh = true → ∃ ns : List Int, xs = ns.map V.int
  | [], _ => ⟨[], rfl⟩
  | x :: r, h => by
    rw [List.all_cons,
          Bool.and_eq_true] at h
    obtain ⟨ns, rfl⟩ := ints_all h.2
    cases x with
    | int i => exact ⟨i :: ns, rfl⟩
    | _ => exact absurd (show false = true from h.1) Bool.false_ne_true
theorem all_ints : ∀ ns : List Int, (ns.map V.int).all wh = true
  | [] => rfl
  | _ :: r => all_ints r
def spR2 (K : PySem.W.Frag) : Sp := fun vs H Q _ => ∃ x w : Int, vs = [.int x, .int w] ∧ 0 < w ∧ x.natAbs ≤ 2 ^ 1000 ∧ w.natAbs ≤ 2 ^ 1000 ∧ ∀ p H', Same H H' → Tp K H' p (thin [x, w]) → Q p H'
theorem b1000 {n : Nat} (h : n ≤ 2 ^ 1000) : n < 2 ^ 9000 := Nat.lt_of_le_of_lt h (Nat.pow_lt_pow_right (by decide) (by decide))
section
variable {P : Program} {w : World} {K :
      PySem.W.Frag} {mg : Str → Option Value} {base : Heap}
abbrev n_ratio : List Str := ["n", "m", "divisor"]
abbrev p_ratio : List Str := ["n", "m"]
/-! ### numbers, rows -/
theorem sc_numsF : FnScope n_value n_value (defScope sNumsF) := ⟨rfl, rfl, rfl, by decide +kernel, rfl, by decide +kernel, by decide +kernel⟩
theorem ok_numsF {f : Addr} {fd : FuncData} (F : Fun K "numbers_fit" "numbers_fit" sNumsF f fd) (T : Bl mg) (H_wholes_fit : Has P w K mg base "wholes_fit" p_wholes_fit 2 (spTold K fun xs => xs.all wh)) : FnOk P w K mg base CX0 3 f fd n_value (spTold K isNums) := by
  refine F.ok sc_numsF (fun vs H Q E h => ?_) (fun cdv A outer s H vs Q E hr h => ?_)
  · obtain ⟨x, k, xs, rfl, _⟩ := h
    rfl
  · obtain ⟨x, k, xs, rfl, A1, q⟩ := h
    refine ⟨_, (pss_one (ps_ret (pe_and (pe_callB call_isi (by rfl) T.isinstance PyProof.Rows.boot_isinstance (pa_cons (pv 0) (pa_cons (pe_bltn (v := .ty "tuple") (by rfl) T.tuple PyProof.Rows.boot_tuple rfl) pa_nil))) (pe_and (pe_cmpR op_le (pe_callB call_len_seq (by rfl) T.len PySem.boot_len (pa_cons (pv 0) pa_nil)) pe_int (nomark _)) (pe_one (pe_has H_wholes_fit (hr.mono (by decide)) (by rfl) (pa_cons (pv 0) pa_nil))))))), ?_⟩
    refine ⟨x, rfl, x, _, _, _, _, rfl, .ty "tuple", A1.ty, kit_ty (kd_tup k), _, rfl, ?_⟩
    refine ite2 (fun c
          => ?_) (fun c => ?_)
    · obtain ⟨a, rfl, hS, hl, hk, hb⟩ := A1.its (by simpa using c)
      refine ⟨_, rfl, a, xs, rfl, Or.inr hS, _, _, rfl, rfl, _, rfl, ?_⟩
      refine ite2 (fun c2 => ?_) (fun c2 => ?_)
      · refine ⟨_, rfl, _, k, xs, rfl, A1, fun H2 s2 => ?_⟩
        have e : (k == Kd.tup && xs.all wh) = (k == Kd.tup && isNums xs) := by
          unfold isNums
          rw [decide_eq_true (by have := of_decide_eq_true c2; omega)]
          rfl
        rw [e]
        exact q H2 s2
      · have e : false = (k == Kd.tup && isNums xs) := by
          unfold isNums
          rw [decide_eq_false (fun z => c2 (decide_eq_true (by omega))), Bool.false_and, Bool.and_false]
        rw [e]
        exact q H (Same.refl H)
    · have := q H (Same.refl H)
      rw [kd_ne c] at this
      exact this
theorem sc_rowF : FnScope n_value n_value (defScope sRowF) := ⟨rfl, rfl, rfl, by decide +kernel, rfl, by decide +kernel, by decide +kernel⟩
theorem ok_rowF {f : Addr} {fd : FuncData} (F : Fun K "row_fits" "row_fits" sRowF f fd) (H_numbers_fit : Has P w K mg base "numbers_fit" n_value 3 (spTold K isNums)) : FnOk P w K mg base CX0 4 f fd n_value (spTold K isRw) := by
  refine F.ok sc_rowF (fun vs H Q E h => ?_) (fun cdv A outer s H vs Q E hr h => ?_)
  · obtain ⟨x, k, xs, rfl, _⟩ := h
    rfl
  · obtain ⟨x, k, xs, rfl, A1, q⟩ := h
    refine ⟨_, (pss_one (ps_ret (pe_and (pe_has H_numbers_fit (hr.mono (by decide)) (by rfl) (pa_cons (pv 0) pa_nil)) (pe_one (pe_or (pe_notT (pv 0)) (pe_one (pe_cmpR op_ne (pe_ix ix_tup (pv 0) (pe_un un_neg pe_int) (fun _ _ => rfl)) pe_int (nomark _)))))))), ?_⟩
    refine ⟨_, rfl, x, k, xs, rfl, A1, fun H2 s2 => ⟨_, rfl, ?_⟩⟩
    refine ite2 (fun c
          => ?_) (fun c => ?_)
    · rw [Bool.and_eq_true] at c
      obtain ⟨a, rfl, hS, hl, hk, hb⟩ := (A1.same s2).its (by simpa using c.1)
      have c2 := c.2
      unfold isNums at c2
      rw [Bool.and_eq_true] at c2
      obtain ⟨ns, rfl⟩ := ints_all c2.2
      have e0 : (k == Kd.tup && isRw (ns.map V.int)) = lastOk (ns.map V.int) := by
        unfold isRw
        rw [c.1, c.2]
        rfl
      rw [e0] at q
      refine ⟨_, rfl, _, Or.inr (Or.inl ⟨_, hS, rfl⟩), _, rfl, ?_⟩
      refine ite2 (fun d => ?_) (fun d => ?_)
      · have e1 : ns = [] := by
          cases ns with
          | nil => rfl
          | cons n r => exact absurd d (by simp)
        subst e1
        exact q H2 s2
      · have e1 : ns ≠ [] := fun z => d (by rw [z]; rfl)
        have hlen : 0 < ns.length := List.length_pos_iff.mpr e1
        have hlast : (ns.map V.int)[ns.length - 1]? = some (V.int (ns.getLast e1)) := by
          rw [List.getElem?_map, ← List.getLast?_eq_getElem?, List.getLast?_eq_some_getLast e1]
          rfl
        refine ⟨_, rfl, _, rfl, a, _, -1, V.int (ns.getLast e1), rfl, rfl, hS, ?_, rfl, ?_⟩
        · have h : ns.map V.int = ns.dropLast.map V.int ++ [V.int (ns.getLast e1)] := by
            have := congrArg (List.map V.int) (List.dropLast_concat_getLast e1).symm
            rw [List.map_append] at this
            exact this
          rw [h]
          exact atI_last _ _
        · have e2 : lastOk (ns.map V.int) = !decide (V.int (ns.getLast e1) = V.int 0) := by
            unfold lastOk
            rw [List.getLast?_map, List.getLast?_eq_some_getLast e1]
            show decide (ns.getLast e1 ≠ 0) = _
            by_cases z : ns.getLast e1 = 0
            · rw [z]; rfl
            · rw [decide_eq_true z, decide_eq_false (fun y => z (V.int.inj y))]; rfl
          rw [← e2]
          exact q H2 s2
    · have e0 : (k == Kd.tup && isRw xs) = false := by
        unfold isRw
        rw [← Bool.and_assoc]
        rw [Bool.not_eq_true] at c
        rw [c]
        rfl
      have := q H2 s2
      rw [e0] at this
      exact this
/-! ### the checks let -/
theorem arg_ints {K : PySem.W.Frag} {H : Hp} {t : Addr} {ns : List Int} (h : SqT K H t (ns.map V.int)) (hl : ns.length ≤ 1000) (hb : ∀ n ∈ ns, n.natAbs < 2 ^ 9000) : Arg K H (.ref t) .tup (ns.map V.int) := by
  refine ⟨tup_kd h, fun _ => ⟨t, rfl, h, by simpa using hl, fun y hy => ?_, fun i hi => ?_⟩⟩
  · obtain ⟨n, _, rfl⟩ := List.mem_map.mp hy
    exact ⟨⟨.int, .base (.int n)⟩, .int n, .int n, rfl, Nat.zero_le _⟩
  · obtain ⟨n, hn, e⟩ := List.mem_map.mp hi
    cases e
    exact hb _ hn
def spChk (K : PySem.W.Frag) (g : List V → Bool) : Sp := fun vs H Q _ => ∃ (v : V) (a : List Int), vs = [v] ∧ Tp K H v a ∧ a.length ≤ 1000 ∧ (∀ n ∈ a, n.natAbs < 2 ^ 9000) ∧ g (a.map V.int) = true ∧ ∀ H', Same H H' → Q .non H'
theorem ok_chkR {f : Addr} {fd : FuncData} (F : Fun K "check_row" "check_row" sChkR f fd) (H_row_fits : Has P w K mg base "row_fits" n_value 4 (spTold K isRw)) : FnOk P w K mg base CX0 5 f fd n_value (spChk K isRw) := by
  have sc : FnScope n_value n_value (defScope sChkR) := ⟨rfl, rfl, rfl, by decide +kernel, rfl, by decide +kernel, by decide +kernel⟩
  refine F.ok sc (fun vs H Q E h => ?_) (fun cdv A outer s H vs Q E hr h => ?_)
  · obtain ⟨_, _, rfl, _⟩ := h
    rfl
  · obtain ⟨va, a, rfl, ⟨ta, rfl, sa⟩, hl, hb, hg, q⟩ := h
    refine ⟨_, (pss_one (ps_if (pt_not (pt_val (pe_has H_row_fits (hr.mono (by decide)) (by rfl) (pa_cons (pv 0) pa_nil)))) (pss_one ps_never) pss_nil)), ?_⟩
    refine ⟨_, rfl, _, _, _, rfl, arg_ints sa hl hb, fun H1 s1 => ⟨true, by rw [hg]; rfl, iteF (q H1 s1)⟩⟩
/-! ### trimmed -/
def spTrim (K : PySem.W.Frag) : Sp := fun vs H Q _ => ∃ (a : Addr) (ns : List Int), vs = [.ref a] ∧ (SqL K H a (ns.map V.int) ∨ SqT K H a (ns.map V.int)) ∧ ns.length ≤ 1000 ∧ ∀ p H', Same H H' → Tp K H' p (trimL ns) → Q p H'
abbrev n_trimmed : List Str := ["numbers", "many"]
abbrev p_trimmed : List Str := ["numbers"]
theorem sc_trimmed : FnScope n_trimmed p_trimmed (defScope sTrim) := ⟨rfl, rfl, rfl, by decide +kernel, rfl, by decide +kernel, by decide +kernel⟩
/-- what the loop has left -/
def Left (ns : List Int) (a : Addr) (m : Nat) (σ : L2.St) : Prop := m ≤ ns.length ∧ σ = [some (.ref a), some (.int (m : Nat))] ∧ trimL (ns.take m) = trimL ns
theorem left_step {ns : List Int} {m : Nat} (h : ns[m]? = some 0) (e : trimL (ns.take (m + 1)) = trimL ns) : trimL (ns.take m) = trimL ns := by
  rw [take_last h, trim_snoc0] at e
  exact e
theorem left_end {ns : List Int} {m : Nat} {x : Int} (h : ns[m]? = some x) (hx : x ≠ 0) (e : trimL (ns.take (m + 1)) = trimL ns) : ns.take (m + 1) = trimL ns := by
  rw [← e, take_last h, trim_snoc hx]
theorem cut_to {ns : List Int} {m : Nat} : cutV (ns.map V.int) none (some (m : Int)) = (ns.take m).map V.int := by
  unfold cutV
  rw [HT.sIx_nat, HT.sIx_none, List.drop_zero, List.length_map, Nat.sub_zero, List.map_take]
  by_cases h : m ≤ ns.length
  · rw [Nat.min_eq_left h]
  · rw [Nat.min_eq_right (by omega), List.take_of_length_le (by simp), List.take_of_length_le (by simp; omega)]
theorem ok_trim {f : Addr} {fd : FuncData} (F : Fun K "trimmed" "trimmed" sTrim f fd) (T : Bl mg) : FnOk P w K mg base CX0 1 f fd p_trimmed (spTrim K) := by
  refine F.ok sc_trimmed (fun vs H Q E h => ?_) (fun cdv A outer s H vs Q E hr h => ?_)
  · obtain ⟨_, _, rfl, _⟩ := h
    rfl
  · obtain ⟨a, ns, rfl, hS | hS, hl, q⟩ := h
    · refine ⟨_, (pss_cons (ps_set (i := 1) sc_trimmed.nd rfl (Or.inl rfl) (pe_callB call_len_seq (by rfl) T.len PySem.boot_len (pa_cons (pv 0) pa_nil)))
      (pss_cons (ps_while PassesOwn.never ((pw_and (pt_cmpR op_gt (pv 1) pe_int (nomark _)) (pw_and1 (pt_cmpR op_eq (pe_ix ix_list (pv 0) (pe_op op_sub (pv 1) pe_int) (fun _ _ => rfl)) pe_int (nomark _))))).pt (pss_one (ps_set (i := 1) sc_trimmed.nd rfl (Or.inl rfl) (pe_op op_sub (pv 1) pe_int))))
      (pss_one (ps_ret (pe_callTy call_tuple_of (by rfl) T.tuple PyProof.Rows.boot_tuple (pa_cons (pe_slice sl_list (pv 0) po_none (po_some (pv 1))) pa_nil)))))), ?_⟩
      refine ⟨_, rfl, a, _, rfl, Or.inl hS, ?_⟩
      refine ⟨fun m σ H' => Left ns a m σ ∧ H' = H, ⟨ns.length, ⟨Nat.le_refl _, by rw [List.length_map]; rfl, by rw [List.take_length]⟩, rfl⟩, ?_⟩
      rintro m σ H' ⟨⟨hm, rfl, e⟩, rfl⟩
      refine ⟨_, rfl, _, _,
            rfl, rfl, _, rfl, ?_⟩
      refine ite2 (fun c
            => ?_) (fun c => ?_)
      · obtain ⟨j, rfl⟩ : ∃ j, m = j + 1 := ⟨m - 1, by have := of_decide_eq_true c; omega⟩
        have hj : j < ns.length := by omega
        refine ⟨_, rfl, _, rfl, _, _, rfl, rfl, a, _, _, V.int ns[j], rfl, rfl, hS, ?_, rfl, _, rfl, ?_⟩
        · rw [show (((j + 1 : Nat) : Int) - 1) = ((j : Nat) : Int) by omega]
          exact atI_nat (by simp [hj])
        · refine ite2 (fun d => ?_) (fun d => ?_)
          · have z : ns[j] = 0 := V.int.inj (of_decide_eq_true d)
            refine ⟨fun σ' H'' => Left ns a j σ' ∧ H'' = H', fun σ' H'' h => ⟨j, Nat.lt_succ_self j, h⟩, ⟨_, rfl, _, _, rfl, rfl, ⟨⟨by omega, ?_, left_step (by simp [hj, z]) e⟩, rfl⟩⟩⟩
            show [some (V.ref a), some (V.int (((j + 1 : Nat) : Int) - 1))] = _
            rw [show (((j + 1 : Nat) : Int) - 1) = ((j : Nat) : Int) by omega]
          · have z : ns[j] ≠ 0 := fun y => d (decide_eq_true (by rw [y]))
            have hend := left_end (by simp [hj]) z e
            refine ⟨_, rfl, _, rfl, ((j + 1 : Nat) : Int), rfl, a, _, rfl, hS, fun p hp => ⟨p, _, rfl, Or.inl ⟨SqL.of upd_same, fun l hl2 => ?_⟩⟩⟩
            refine q _ _ ((same_new hp).trans (same_new hl2)) ⟨l, rfl, ?_⟩
            rw [cut_to, hend]
            exact SqT.of upd_same
      · have z : m = 0 := Nat.eq_zero_of_not_pos fun y => c (decide_eq_true (by omega))
        subst z
        have hend : ns.take 0 = trimL ns := e
        refine ⟨_, rfl, _, rfl, ((0 : Nat) : Int), rfl, a, _, rfl, hS, fun p hp => ⟨p, _, rfl, Or.inl ⟨SqL.of upd_same, fun l hl2 => ?_⟩⟩⟩
        refine q _ _ ((same_new hp).trans (same_new hl2)) ⟨l, rfl, ?_⟩
        rw [cut_to, hend]
        exact SqT.of upd_same
    · refine ⟨_, (pss_cons (ps_set (i := 1) sc_trimmed.nd rfl (Or.inl rfl) (pe_callB call_len_seq (by rfl) T.len PySem.boot_len (pa_cons (pv 0) pa_nil)))
      (pss_cons (ps_while PassesOwn.never ((pw_and (pt_cmpR op_gt (pv 1) pe_int (nomark _)) (pw_and1 (pt_cmpR op_eq (pe_ix ix_tup (pv 0) (pe_op op_sub (pv 1) pe_int) (fun _ _ => rfl)) pe_int (nomark _))))).pt (pss_one (ps_set (i := 1) sc_trimmed.nd rfl (Or.inl rfl) (pe_op op_sub (pv 1) pe_int))))
      (pss_one (ps_ret (pe_callTy call_tuple_of (by rfl) T.tuple PyProof.Rows.boot_tuple (pa_cons (pe_slice sl_tupA (pv 0) po_none (po_some (pv 1))) pa_nil)))))), ?_⟩
      refine ⟨_, rfl, a, _, rfl, Or.inr hS, ?_⟩
      refine ⟨fun m σ H' => Left ns a m σ ∧ H' = H, ⟨ns.length, ⟨Nat.le_refl _, by rw [List.length_map]; rfl, by rw [List.take_length]⟩, rfl⟩, ?_⟩
      rintro m σ H' ⟨⟨hm, rfl, e⟩, rfl⟩
      refine ⟨_, rfl, _, _,
            rfl, rfl, _, rfl, ?_⟩
      refine ite2 (fun c
            => ?_) (fun c => ?_)
      · obtain ⟨j, rfl⟩ : ∃ j, m = j + 1 := ⟨m - 1, by have := of_decide_eq_true c; omega⟩
        have hj : j < ns.length := by omega
        refine ⟨_, rfl, _, rfl, _, _, rfl, rfl, a, _, _, V.int ns[j], rfl, rfl, hS, ?_, rfl, _, rfl, ?_⟩
        · rw [show (((j + 1 : Nat) : Int) - 1) = ((j : Nat) : Int) by omega]
          exact atI_nat (by simp [hj])
        · refine ite2 (fun d => ?_) (fun d => ?_)
          · have z : ns[j] = 0 := V.int.inj (of_decide_eq_true d)
            refine ⟨fun σ' H'' => Left ns a j σ' ∧ H'' = H', fun σ' H'' h => ⟨j, Nat.lt_succ_self j, h⟩, ⟨_, rfl, _, _, rfl, rfl, ⟨⟨by omega, ?_, left_step (by simp [hj, z]) e⟩, rfl⟩⟩⟩
            show [some (V.ref a), some (V.int (((j + 1 : Nat) : Int) - 1))] = _
            rw [show (((j + 1 : Nat) : Int) - 1) = ((j : Nat) : Int) by omega]
          · have z : ns[j] ≠ 0 := fun y => d (decide_eq_true (by rw [y]))
            have hend := left_end (by simp [hj]) z e
            refine ⟨_, rfl, _, rfl, ((j + 1 : Nat) : Int), rfl, a, _, rfl, hS, fun cw => ?_, fun cw p hp => ?_⟩
            · refine ⟨a, _, rfl, Or.inr ⟨hS, q _ _ (Same.refl _) ⟨a, rfl, ?_⟩⟩⟩
              have e0 := cw.2
              rw [HT.sIx_nat, List.length_map] at e0
              rw [← hend, List.take_of_length_le (by omega)]
              exact hS
            · refine ⟨p, _, rfl, Or.inr ⟨SqT.of upd_same, q _ _ (same_new hp) ⟨p, rfl, ?_⟩⟩⟩
              rw [← hend, ← cut_to]
              exact SqT.of upd_same
      · have z : m = 0 := Nat.eq_zero_of_not_pos fun y => c (decide_eq_true (by omega))
        subst z
        have hend : ns.take 0 = trimL ns := e
        refine ⟨_, rfl, _, rfl, ((0 : Nat) : Int), rfl, a, _, rfl, hS, fun cw => ?_, fun cw p hp => ?_⟩
        · refine ⟨a, _, rfl, Or.inr ⟨hS, q _ _ (Same.refl _) ⟨a, rfl, ?_⟩⟩⟩
          have e0 := cw.2
          rw [HT.sIx_nat, List.length_map] at e0
          rw [← hend, List.take_of_length_le (by omega)]
          exact hS
        · refine ⟨p, _, rfl, Or.inr ⟨SqT.of upd_same, q _ _ (same_new hp) ⟨p, rfl, ?_⟩⟩⟩
          rw [← hend, ← cut_to]
          exact SqT.of upd_same
end
end K6

namespace Ur
open PySem L2 PyProof.Rows
theorem Made.on {H H3 H4 : Hp} {Pe : Nat → V → Prop} {D : Addr} {i : Nat} (m : Made H Pe D i H3) (s : Same H3 H4) : Made H Pe D i H4 := by
  obtain ⟨hn, sm, ys, h1, h2, h3⟩ := m
  exact ⟨hn, sm.trans s, ys, s _ _ h1, h2, h3⟩
/-- the target of enumerate's pairs -/
abbrev gPair (K : PySem.W.Frag) (i j : Nat) : TG := gTup K 2 (gCons (gName i) (gCons (gName j) gNil))
theorem pair_in {K : PySem.W.Frag} {i j : Nat} {T : Addr} {x y : V} {σ : L2.St} {H : Hp} {Q : L2.St → Hp → Prop} (h : H T = some (.tup [x, y])) (q : Q ((σ.set i (some x)).set j (some y)) H) : gPair K i j (.ref T) σ H Q :=
  ⟨T, [x, y], rfl, SqT.of h, rfl, x, [y], rfl, y, [], rfl, rfl, q⟩
section
variable {K : PySem.W.Frag} {a : Addr} {xs : List V} {te : TE} {ta : TA} {vs : List Nat} {i1 j1 : Nat} {σ : L2.St} {H : Hp} {Q : VK}
theorem lc_pairs {J : L2.It} {G : Hp → Prop} (Pe : Nat → V → Prop) (W : Walk J xs.length G (fun i H v H' => ∃ T x, v = .ref T ∧ H T = none ∧ H' = upd H T (.tup [.int (i : Nat), x]) ∧ xs[i]? = some x)) (hG : ∀ H', Same H H' → G H') (hz : xs.length ≤ 100000)
    (hw : ∀ x y, wipe (((wipe σ vs).set i1 (some x)).set j1 (some y)) vs = wipe σ vs)
    (he : ∀ (i : Nat) x H3, xs[i]? = some x → Same H H3 → ∀ Q' : VK, (∀ y H4, Pe i y → Same H3 H4 → Q' y H4) → te (((wipe σ vs).set i1 (some (.int (i : Nat)))).set j1 (some x)) H3 Q')
    (hq : ∀ D ys H', H D = none → Same H H' → H' D = some (.lst ys) → ys.length = xs.length → (∀ i y, ys[i]? = some y → Pe i y) → Q (.ref D) H') (D : Addr) (hD : H D = none) :
    ∃ W : Nat → Nat → Hp → Prop, (∃ m, W 0 m (upd H D (.lst []))) ∧ ∀ i m H, W i m H →
      (J.stop i H ∧ Q (.ref D) H) ∨ (J.go i H ∧ ∃ Nx : Hp → Prop, (∀ H', Nx H' → ∃ m', m' < m ∧ W (i + 1) m' H') ∧ ∀ x H', J.yld i H x H' → gPair K i1 j1 x (wipe σ vs) H' fun σ2 H2 => wipe σ2 vs = wipe σ vs ∧ tYes σ2 H2 fun b H3 =>
        if b = true then te σ2 H3 fun y H4 => ∃ acc, H4 D = some (.lst acc) ∧
              acc.length < sizeLine ∧ Nx (upd H4 D (.lst (acc ++ [y]))) else Nx H3) := by
  refine lc_it W (Qd := Q (.ref D)) (Made H Pe D) (.start hD) (fun i H' _ m => hG _ m.same) (fun i v H3 H' hi m hY => ?_) (fun H' ⟨hn, sm, ys, h1, h2, h3⟩ => hq D ys H' hn sm h1 h2 h3)
  obtain ⟨T, x, rfl, hT, rfl, hx⟩ := hY
  have s3 := same_new (p := T) (o := HO.tup [.int (i : Nat), x]) hT
  refine pair_in upd_same ⟨hw _ _, ?_⟩
  unfold tYes
  dsimp only
  rw [if_pos rfl]
  exact (m.on s3).turn (by omega) (he i x _ hx (m.same.trans s3))
/-- [e for i, x in enumerate(l)], l a list -/
theorem lcE (Pe : Nat → V → Prop) (hx : ∀ R : List V → Hp → Prop, R [.ref a] H → ta σ H R) (hs : SqL K H a xs) (hz : xs.length ≤ 100000)
    (hw : ∀ x y, wipe (((wipe σ vs).set i1 (some x)).set j1 (some y)) vs = wipe σ vs)
    (he : ∀ (i : Nat) x H3, xs[i]? = some x → Same H H3 → ∀ Q' : VK, (∀ y H4, Pe i y → Same H3 H4 → Q' y H4) → te (((wipe σ vs).set i1 (some (.int (i : Nat)))).set j1 (some x)) H3 Q')
    (hq : ∀ D ys H', H D = none → Same H H' → H' D = some (.lst ys) → ys.length = xs.length → (∀ i y, ys[i]? = some y → Pe i y) → Q (.ref D) H') : tLc (iEnum K ta) (gPair K i1 j1) tYes te vs σ H Q := by
  refine hx _ ⟨a, xs, rfl, hs, fun D hD => ?_⟩
  refine lc_pairs Pe ⟨walk_enum.goes, walk_enum.stops, fun i H v H' hi q y => ?_⟩ (fun H' s => s.seq hs) hz hw he hq D hD
  obtain ⟨T, x, y', h1, h2, h3, h4, h5⟩ := walk_enum.yields i H v H' hi q y
  cases h4
  exact ⟨T, y', h1, h2, h3, h5⟩
/-- [e for i, x in enumerate(t)], t a tuple -/
theorem lcET (Pe : Nat → V → Prop) (hx : ∀ R : List V → Hp → Prop, R [.ref a] H → ta σ H R) (hs : SqT K H a xs) (hz : xs.length ≤ 100000)
    (hw : ∀ x y, wipe (((wipe σ vs).set i1 (some x)).set j1 (some y)) vs = wipe σ vs)
    (he : ∀ (i : Nat) x H3, xs[i]? = some x → Same H H3 → ∀ Q' : VK, (∀ y H4, Pe i y → Same H3 H4 → Q' y H4) → te (((wipe σ vs).set i1 (some (.int (i : Nat)))).set j1 (some x)) H3 Q')
    (hq : ∀ D ys H', H D = none → Same H H' → H' D = some (.lst ys) → ys.length = xs.length → (∀ i y, ys[i]? = some y → Pe i y) → Q (.ref D) H') : tLc (iEnumT K ta) (gPair K i1 j1) tYes te vs σ H Q := by
  refine hx _ ⟨a, xs, rfl, hs, fun D hD => ?_⟩
  exact lc_pairs Pe walk_enumT (fun H' s => same_sqT s hs) hz hw he hq D hD
end
end Ur
namespace Ur
open PySem L2 PyProof.Rows
def rLen (K : PySem.W.Frag) : List V → Hp → VK → Prop := fun xs H Q => ∃ p ys, xs = [V.ref p] ∧ (SqL K H p ys ∨ SqT K H p ys) ∧ Q (.int (ys.length : Nat)) H
theorem len_seq {X : Cx} : CallR X (.builtin "len") (rLen X.K) := call_len_seq
end Ur

namespace K6
open PySem L2 Ur
/-! ### sums -/
def addL : List Int → List Int → List Int
  | [], b => b
  | a, [] => a
  | x :: a, y :: b => (x + y) :: addL a b
theorem addL_nil (a : List Int) : addL a [] = a := by cases a <;> rfl
theorem addL_len : ∀ a b : List Int, (addL a b).length = max a.length b.length
  | [], b => by simp [addL]
  | x :: a, [] => by simp [addL]
  | x :: a, y :: b => by
    show (addL a b).length + 1 = max (a.length + 1) (b.length + 1)
    rw [addL_len a b]
    omega
theorem addL_at : ∀ (a b : List Int) (i : Nat), i < max a.length b.length → (addL a b)[i]? = some (a.getD i 0 + b.getD i 0)
  | [], b, i, h => by
    have : i < b.length := by simpa using h
    simp [addL, this]
  | x :: a, [], i, h => by
    have : i < (x :: a).length := by simpa using h
    rw [addL_nil, List.getElem?_eq_getElem this]
    rw [List.getD_eq_getElem?_getD, List.getElem?_eq_getElem this]
    simp
  | x :: a, y :: b, 0, h => rfl
  | x :: a, y :: b, i + 1, h => by
    show (addL a b)[i]? = _
    rw [addL_at a b i (by simp at h ⊢; omega)]
    rfl
def spRow2 (K : PySem.W.Frag) (f : List Int → List Int → List Int) : Sp := fun vs H Q _ => ∃ (v v' : V) (a b : List Int), vs = [v, v'] ∧ Tp K H v a ∧ Tp K H v' b ∧ a.length ≤ 100 ∧ b.length ≤ 100 ∧ (∀ n ∈ a, n.natAbs < 2 ^ 9000) ∧ (∀ n ∈ b, n.natAbs < 2 ^ 9000) ∧ ∀ p H', Same H H' → Tp K H' p (f a b) → Q p H'
section
variable {P : Program} {w : World} {K :
      PySem.W.Frag} {mg : Str → Option Value} {base : Heap}
abbrev n_rplus : List Str := ["row", "other", "many", "longer", "k", "n"]
abbrev p_ro : List Str := ["row", "other"]
end
end K6

namespace K6
open PySem L2 Ur
/-! ### growth -/
def growL (a : List Int) : List Int := (List.range (a.length - 1)).map fun i => ((i + 1 : Nat) : Int) * a.getD (i + 1) 0
def idxL (a : List Int) : List Int := (List.range a.length).map fun i => ((i : Nat) : Int) * a.getD i 0
theorem idx_drop (a : List Int) : (idxL a).drop 1 = growL a := by
  unfold idxL growL
  apply List.ext_getElem?
  intro i
  rw [List.getElem?_drop, List.getElem?_map, List.getElem?_map]
  by_cases h : i < a.length - 1
  · rw [List.getElem?_range h, List.getElem?_range (by omega), Nat.add_comm 1 i]
    rfl
  · rw [List.getElem?_eq_none (by rw [List.length_range]; omega), List.getElem?_eq_none (by rw [List.length_range]; omega)]
    rfl
structure RowOk (a : List Int) : Prop where
  few : a.length ≤ 13
  last : lastOk (a.map V.int) = true
  big : ∀ n ∈ a, n.natAbs < 2 ^ 200
theorem RowOk.rw {a : List Int} (h : RowOk a) : isRw (a.map V.int) = true := by
  unfold isRw isNums
  rw [List.length_map, decide_eq_true h.few, all_ints, h.last]
  rfl
theorem RowOk.b9 {a : List Int} (h : RowOk a) : ∀ n ∈ a, n.natAbs < 2 ^ 9000 := fun n hn => Nat.lt_trans (h.big n hn) (Nat.pow_lt_pow_right (by decide) (by decide))
theorem lastOk_ne {a : List Int} (h : lastOk (a.map V.int) = true) (h0 : a ≠ []) : a.getLast h0 ≠ 0 := by
  unfold lastOk at h
  rw [List.getLast?_map, List.getLast?_eq_some_getLast h0] at h
  exact of_decide_eq_true h
theorem gAll_dvd : ∀ (ns : List Int) (g : Nat), ns.foldl (fun g n => Nat.gcd g n.natAbs) g ∣ g ∧ ∀ n ∈ ns, ns.foldl (fun g n => Nat.gcd g n.natAbs) g ∣ n.natAbs
  | [], g => ⟨Nat.dvd_refl _, fun _ h => nomatch h⟩
  | n :: r, g => by
    obtain ⟨h1, h2⟩ := gAll_dvd r (Nat.gcd g n.natAbs)
    refine ⟨Nat.dvd_trans h1 (Nat.gcd_dvd_left _ _), fun m hm => ?_⟩
    rcases List.mem_cons.mp
          hm with rfl | hm
    · exact Nat.dvd_trans h1 (Nat.gcd_dvd_right _ _)
    · exact h2 m hm
theorem gAll_pos {a : List Int} {x : Int} (hx : x ∈ a) (h : x ≠ 0) : 0 < gAll a := by
  have := (gAll_dvd a 0).2 x hx
  exact Nat.pos_of_dvd_of_pos this (by omega)
theorem RowOk.g {a : List Int} (h : RowOk a) (h0 : a ≠ []) : 0 < gAll a := gAll_pos (List.getLast_mem h0) (lastOk_ne h.last h0)
def shortL (a : List Int) : List Int := a.map fun n => n / (gAll a : Int)
def spRow1 (K : PySem.W.Frag) (f : List Int → List Int) : Sp := fun vs H Q _ => ∃ (v : V) (a : List Int), vs = [v] ∧ Tp K H v a ∧ RowOk a ∧ ∀ p H', Same H H' → Tp K H' p (f a) → Q p H'
theorem vals_map {ys : List V} {f : Nat → Int} {n : Nat} (hl : ys.length = n) (h : ∀ (i : Nat) (y : V), ys[i]? = some y → y = V.int (f i)) : ys = ((List.range n).map f).map V.int := by
  apply List.ext_getElem?
  intro i
  rw [List.getElem?_map,
        List.getElem?_map]
  by_cases hi : i < n
  · have hi' : i < ys.length := by omega
    rw [List.getElem?_range hi, List.getElem?_eq_getElem hi', h i _ (List.getElem?_eq_getElem hi')]
    rfl
  · rw [List.getElem?_eq_none (l := ys) (by omega), List.getElem?_eq_none (by rw [List.length_range]; omega)]
    rfl
section
variable {P : Program} {w : World} {K :
      PySem.W.Frag} {mg : Str → Option Value} {base : Heap}
abbrev n_rgrow : List Str := ["row", "k", "n"]
abbrev p_r : List Str := ["row"]
abbrev n_rshort : List Str := ["row", "divisor", "n"]
theorem sc_rshort : FnScope n_rshort p_r (defScope sRShort) := ⟨rfl, rfl, rfl, by decide +kernel, rfl, by decide +kernel, by decide +kernel⟩
theorem ok_rshort {f : Addr} {fd : FuncData} (F : Fun K "row_shortest" "row_shortest" sRShort f fd) (T : Bl mg) (H_common_divisor : Has P w K mg base "common_divisor" p_common_divisor 1 (spCom K)) : FnOk P w K mg base CX0 2 f fd p_r (spRow1 K shortL) := by
  refine F.ok sc_rshort (fun vs H Q E h => ?_) (fun cdv A outer s H vs Q E hr h => ?_)
  · obtain ⟨_, _, rfl, _⟩ := h
    rfl
  · obtain ⟨va, a, rfl, ⟨ta, rfl, sa⟩, R, q⟩ := h
    refine ⟨_, (pss_cons (ps_set (i := 1) sc_rshort.nd rfl (Or.inr rfl) (pe_has H_common_divisor (hr.mono (by decide)) (by rfl) (pa_cons (pv 0) pa_nil)))
      (pss_one (ps_ret (pe_callTy call_tuple_of (by rfl) T.tuple PyProof.Rows.boot_tuple (pa_cons (pe_lc (own := [("n", 2)]) (g := gName 2) (tt := tYes) rfl sc_rshort.nd (pi_tup (pv 0)) (blkOk_by (N := n_rshort) (sc := defScope sRShort) (by decide +kernel)) (fun _ _ _ _ _ => pg_name (i := 2) sc_rshort.nd rfl (Or.inl rfl)) (fun _ _ _ _ _ => pts_nil) (fun _ _ _ _ _ => (pe_op op_fdivW (pv 2) (pv 1)))) pa_nil))))), ?_⟩
    have hl := R.few
    have gb : gAll a < 2 ^ 9000 := gAll_big a 0 big0 R.b9
    refine ⟨_, rfl, ta, a, rfl, sa, ?_⟩
    unfold tRet tCB tCons tNil gName
    dsimp only
    refine lcT (K := K) (a := ta) (xs := a.map V.int) (fun i y => y = .int (a.getD i 0 / (gAll a : Int))) (fun R r => ⟨_, rfl, r⟩) sa (by rw [List.length_map]; omega) (fun x => rfl) (fun i x H3 hi sm Q' q' => ?_) (fun D ys H2 hD s2 hy e1 e2 => ?_)
    · obtain ⟨z, hz, rfl⟩ := map_at hi
      have hne : a ≠ [] := fun h => by rw [h] at hz; cases hz
      have g0 := R.g hne
      refine ⟨_, rfl, _, rfl, _, _, rfl, rfl, wide_div (b := 9000) (by omega) (by simpa using gb) (by decide) (by decide), q' _ _ ?_ (Same.refl _)⟩
      rw [List.getD_eq_getElem?_getD, hz]
      rfl
    · have ey := vals_map (e1.trans (List.length_map ..)) e2
      refine ⟨D, ys, rfl, Or.inl ⟨SqL.of hy, fun l hl => q _ _ (s2.trans (same_new hl)) ⟨l, rfl, ?_⟩⟩⟩
      have es : shortL a = (List.range a.length).map fun i => a.getD i 0 / (gAll a : Int) := by
        unfold shortL
        apply List.ext_getElem?
        intro i
        rw [List.getElem?_map,
              List.getElem?_map]
        by_cases hi : i < a.length
        · rw [List.getElem?_range hi, List.getElem?_eq_getElem hi, Option.map_some, Option.map_some, List.getD_eq_getElem?_getD, List.getElem?_eq_getElem hi]
          rfl
        · rw [List.getElem?_eq_none (by omega), List.getElem?_eq_none (by rw [List.length_range]; omega)]
          rfl
      rw [es, ← ey]
      exact SqT.of upd_same
end
end K6

namespace K6
open PySem L2 Ur
/-! ### worths, the top number -/
def Hh (n m : Int) : List Int → Int
  | [] => 0
  | c :: r => c * m ^ r.length + n * Hh n m r
structure FrL (n : Nat) (a : List Int) (t b : Int) : Prop where
  eq : a = [t, b]
  pos : 0 < b
  red : Nat.gcd t.natAbs b.natAbs = 1
  bt : t.natAbs ≤ n
  bb : b.natAbs ≤ n
theorem pow9 {m : Int} (h : m.natAbs ≤ 9) : ∀ k : Nat, (m ^ k).natAbs ≤ 9 ^ k
  | 0 => by rw [Int.pow_zero]; exact Nat.le_refl 1
  | k + 1 => by
    rw [Int.pow_succ, Int.natAbs_mul, Nat.pow_succ]
    exact Nat.mul_le_mul (pow9 h k) h
theorem pow_pos9 {m : Int} (h : 0 < m) : ∀ k : Nat, 0 < m ^ k
  | 0 => by rw
        [Int.pow_zero]; decide
  | k + 1 => by
    rw [Int.pow_succ]
    exact Int.mul_pos (pow_pos9 h k) h
theorem pow64 {m : Int} (h : m.natAbs ≤ 9) {k : Nat} (hk : k ≤ 14) : -(2 ^ 64) < m ^ k ∧ m ^ k < 2 ^ 64 := by
  have a := pow9 h k
  have b : 9 ^ k ≤ 9 ^ 14 := Nat.pow_le_pow_right (by decide) hk
  have c : 9 ^ 14 < 2 ^ 64 := by decide
  omega
theorem h_le {n m : Int} (hn : n.natAbs ≤ 9) (hm : m.natAbs ≤ 9) : ∀ {a : List Int}, (∀ z ∈ a, z.natAbs < 2 ^ 200) → (Hh n m a).natAbs ≤ a.length * (2 ^ 200 * 9 ^ a.length)
  | [], _ => Nat.zero_le _
  | c :: r, h => by
    have i1 := h_le hn hm (a := r) fun z hz => h z (List.mem_cons_of_mem _ hz)
    have i2 := h c List.mem_cons_self
    have e1 : (c * m ^ r.length).natAbs ≤ 2 ^ 200 * 9 ^ r.length := by
      rw [Int.natAbs_mul]
      exact Nat.mul_le_mul (Nat.le_of_lt i2) (pow9 hm _)
    have e2 : (n * Hh n m r).natAbs ≤ 9 * (r.length * (2 ^ 200 * 9 ^ r.length)) := by
      rw [Int.natAbs_mul]
      exact Nat.mul_le_mul hn i1
    have e3 : (c * m ^ r.length + n * Hh n m r).natAbs ≤ (c * m ^ r.length).natAbs + (n * Hh n m r).natAbs := Int.natAbs_add_le _ _
    show (c * m ^ r.length + n * Hh n m r).natAbs ≤ (r.length + 1) * (2 ^ 200 * 9 ^ (r.length + 1))
    rw [show 9 ^ (r.length + 1) = 9 ^ r.length * 9 from Nat.pow_succ ..]
    have f1 : (r.length + 1) * (2 ^ 200 * (9 ^ r.length * 9)) = 9 * (r.length * (2 ^ 200 * 9 ^ r.length)) + 9 * (2 ^ 200 * 9 ^ r.length) := by
      generalize 2 ^ 200 = X
      generalize 9 ^ r.length = Y
      generalize r.length = L
      grind
    rw [f1]
    generalize r.length * (2 ^ 200 * 9 ^ r.length) = Z at e2 ⊢
    generalize 2 ^ 200 * 9 ^ r.length = Y at e1 ⊢
    omega
theorem h_250 {n m : Int} (hn : n.natAbs ≤ 9) (hm : m.natAbs ≤ 9) {a : List Int} (R : RowOk a) : (Hh n m a).natAbs ≤ 2 ^ 250 := by
  refine Nat.le_trans (h_le hn hm R.big) ?_
  have h1 := R.few
  have h2 : 9 ^ a.length ≤ 9 ^ 13 := Nat.pow_le_pow_right (by decide) h1
  refine Nat.le_trans (Nat.mul_le_mul h1 (Nat.mul_le_mul (Nat.le_refl _) h2)) ?_
  decide
theorem h_1000 {n m : Int} (hn : n.natAbs ≤ 9) (hm : m.natAbs ≤ 9) {a : List Int} (R : RowOk a) : (Hh n m a).natAbs ≤ 2 ^ 1000 :=
  Nat.le_trans (h_250 hn hm R) (Nat.pow_le_pow_right (by decide) (by decide))
theorem walk_rt {K : PySem.W.Frag} {a : Addr} {xs : List V} : Walk (RT.ItvT K a xs.length) xs.length (fun H => SqT K H a xs) (fun i H x H' => H' = H ∧ xs[xs.length - 1 - i]? = some x) :=
  ⟨fun i _ hi q => ⟨hi, xs, xs[xs.length - 1 - i]'(by omega), q, by simp [show xs.length - 1
        - i < xs.length by omega]⟩, fun _ _ => Nat.le_refl _, fun _ _ _ _ _ q y => ⟨y.1, y.2 xs q⟩⟩
def spWorthT (K : PySem.W.Frag) : Sp := fun vs H Q _ => ∃ (v v' : V) (a e : List Int) (n m : Int), vs = [v, v'] ∧ Tp K H v a ∧ Tp K H v' e ∧ RowOk a ∧ FrL 9 e n m ∧ ∀ H', Same H H' → Q (.int (Hh n m a)) H'
section
variable {P : Program} {w : World} {K :
      PySem.W.Frag} {mg : Str → Option Value} {base : Heap}
abbrev n_worthT : List Str := ["row", "at", "n", "m", "found", "power", "number"]
abbrev p_ra : List Str := ["row", "at"]
theorem FrL.chk {a : List Int} {t b : Int} (R : FrL 9 a t b) : a.length ≤ 1000 ∧ (∀ z ∈ a, z.natAbs < 2 ^ 9000) ∧ isFr (a.map V.int) = true := by
  have e := R.eq
  subst e
  refine ⟨by show 2 ≤ 1000; decide, fun z hz => ?_, ?_⟩
  · have h9 : (9 : Nat) < 2 ^ 9000 := Nat.lt_of_lt_of_le (by decide : 9 < 2 ^ 4) (Nat.pow_le_pow_right (by decide) (by decide))
    simp only [List.mem_cons, List.not_mem_nil, or_false] at hz
    rcases hz with rfl | rfl
    · exact Nat.lt_of_le_of_lt R.bt h9
    · exact Nat.lt_of_le_of_lt R.bb h9
  · show (decide (0 < b) && decide (Nat.gcd t.natAbs b.natAbs = 1)) = true
    rw [decide_eq_true R.pos, decide_eq_true R.red]
    rfl
theorem RowOk.l3 {a : List Int} (R : RowOk a) : a.length ≤ 1000 := Nat.le_trans R.few (by decide)
def worthL (n m : Int) (a : List Int) : List Int := thin [Hh n m a, m ^ (a.length - 1)]
def spWorth (K : PySem.W.Frag) : Sp := fun vs H Q _ => ∃ (v v' : V) (a e : List Int) (n m : Int), vs = [v, v'] ∧ Tp K H v a ∧ Tp K H v' e ∧ RowOk a ∧ FrL 9 e n m ∧ ∀ p H', Same H H' → Tp K H' p (worthL n m a) → Q p H'
abbrev n_worth : List Str := ["row", "at", "bottom", "_"]
end
end K6

namespace K6
open PySem L2 Ur
/-! ### products -/
def lst (N : Nat) (f : Nat → Int) : List Int := (List.range N).map f
def rowAdd (g : Nat → Int) (k : Nat) (x : Int) (b : List Int) (j : Nat) : Nat → Int := fun i => g i + if k ≤ i ∧ i - k < j then x * b.getD (i - k) 0 else 0
def cv (a b : List Int) : Nat → Nat → Int
  | 0 => fun _ => 0
  | k + 1 => rowAdd (cv a b k) k (a.getD k 0) b b.length
theorem lst_at {N : Nat} {f : Nat → Int} {i : Nat} (h : i < N) : (lst N f)[i]? = some (f i) := by
  unfold lst
  rw [List.getElem?_map, List.getElem?_range h]
  rfl
theorem lst_len {N : Nat} {f : Nat → Int} : (lst N f).length = N := by
  unfold lst
  rw [List.length_map,
        List.length_range]
theorem lst_set {N p : Nat} {f g : Nat → Int} {v : Int} (hg : ∀ i, i < N → g i = if i = p then v else f i) : (lst N f).set p v = lst N g := by
  apply List.ext_getElem?
  intro i
  by_cases h : i < N
  · rw [lst_at h, hg i h, List.getElem?_set]
    by_cases e : p = i
    · subst e
      rw [if_pos rfl, if_pos (by rw [lst_len]; exact h), if_pos rfl]
    · rw [if_neg e, if_neg (fun z => e z.symm), lst_at h]
  · rw [List.getElem?_eq_none (by rw [List.length_set, lst_len]; omega), List.getElem?_eq_none (by rw [lst_len]; omega)]
theorem rowAdd_zero {g : Nat → Int} {k : Nat} {x : Int} {b : List Int} : rowAdd g k x b 0 = g := by
  funext i
  unfold rowAdd
  rw [if_neg (by omega), Int.add_zero]
theorem rowAdd_step {g : Nat → Int} {k : Nat} {x : Int} {b : List Int} {j : Nat} (i : Nat) : rowAdd g k x b (j + 1) i = if i = k + j then rowAdd g k x b j (k + j) + x * b.getD j 0 else rowAdd g k x b j i := by
  unfold rowAdd
  by_cases h : i = k + j
  · subst h
    rw [if_pos rfl, if_pos ⟨by omega, by omega⟩, if_neg (by omega), Nat.add_sub_cancel_left, Int.add_zero]
  · rw [if_neg h]
    by_cases h2 : k ≤ i ∧ i - k < j
    · rw [if_pos h2, if_pos ⟨h2.1, by omega⟩]
    · rw [if_neg h2, if_neg (by omega)]
def mulL (a b : List Int) : List Int := trimL (lst (a.length + b.length) (cv a b a.length))
theorem cv_zero {a b : List Int} : ∀ {k i : Nat}, k + b.length ≤ i + 1 → cv a b k i = 0
  | 0, _, _ => rfl
  | k + 1, i, h => by
    show cv a b k i + (if k ≤ i ∧ i - k < b.length then _ else 0) = 0
    rw [cv_zero (by omega), if_neg (by omega)]
    rfl
theorem lst_succ (N : Nat) (f : Nat → Int) : lst (N + 1) f = lst N f ++ [f N] := by
  unfold lst
  rw [List.range_succ, List.map_append]
  rfl
theorem trim_zeros {f : Nat → Int} : ∀ {N : Nat}, (∀ i, i < N → f i = 0) → trimL (lst N f) = []
  | 0, _ => rfl
  | N + 1, h => by
    rw [lst_succ, h N (Nat.lt_succ_self N), trim_snoc0]
    exact trim_zeros fun i hi => h i (Nat.lt_succ_of_lt hi)
theorem cv_nil {a : List Int} : ∀ (k i : Nat), cv a [] k i = 0
  | 0, _ => rfl
  | k + 1, i => by
    show cv a [] k i + (if k ≤ i ∧ i - k < 0 then _ else 0) = 0
    rw [cv_nil k i, if_neg (by omega)]
    rfl
theorem mul_nil1 (b : List Int) : mulL [] b = [] := trim_zeros fun _ _ => rfl
theorem mul_nil2 (a : List Int) : mulL a [] = [] := trim_zeros fun i _ => cv_nil _ i
theorem mul_less {a b : List Int} (h : 0 < a.length + b.length) : mulL a b = trimL (lst (a.length + b.length - 1) (cv a b a.length)) := by
  unfold mulL
  obtain ⟨N, e⟩ : ∃ N, a.length + b.length = N + 1 := ⟨a.length + b.length - 1, by omega⟩
  rw [e, lst_succ, cv_zero (by omega), trim_snoc0]
  rfl
theorem zeros_lst (N : Nat) : (List.replicate N [V.int 0]).flatten = (lst N fun _ => 0).map V.int := by
  unfold lst
  rw [List.map_map]
  induction N with
  | zero => rfl
  | succ n ih => rw [List.replicate_succ', List.flatten_append, ih, List.range_succ, List.map_append]; rfl
/-- a list of one's own that is being filled -/
structure Found (H : Hp) (D : Addr) (N : Nat) (g : Nat → Int) (H' : Hp) : Prop where
  new : H D = none
  same : Same H H'
  held : H' D = some (.lst ((lst N g).map V.int))
theorem Found.pair {H H' : Hp} {D T : Addr} {N : Nat} {g : Nat → Int} {o : HO} (f : Found H D N g H') (h : H' T = none) : Found H D N g (upd H' T o) :=
  ⟨f.new, f.same.trans (same_new h), same_new h _ _ f.held⟩
theorem Found.put {H H' : Hp} {D : Addr} {N p : Nat} {f g : Nat → Int} {v : Int} (F : Found H D N f H') (hg : ∀ i, i < N → g i = if i = p then v else f i) : Found H D N g (upd H' D (.lst (((lst N f).map V.int).set p (.int v)))) := by
  refine ⟨F.new, same_own F.same F.new, ?_⟩
  rw [upd_same, ← List.map_set, lst_set hg]
section
variable {P : Program} {w : World} {K :
      PySem.W.Frag} {mg : Str → Option Value} {base : Heap}
abbrev n_rtimes : List Str := ["row", "other", "found", "k", "n", "j", "m"]
def spTimes (K : PySem.W.Frag) : Sp := fun vs H Q _ => ∃ (v v' : V) (a b : List Int), vs = [v, v'] ∧ Tp K H v a ∧ Tp K H v' b ∧ a.length ≤ 100 ∧ b.length ≤ 100 ∧ (∀ n ∈ a, n.natAbs < 2 ^ 64) ∧ ∀ p H', Same H H' → Tp K H' p (mulL a b) → Q p H'
end
end K6

namespace K6
open PySem L2 Ur
theorem trim_last : ∀ l : List Int, (trimL l).getLast? ≠ some 0
  | [] => by decide
  | x :: r => by
    unfold trimL
    split
    · decide
    · rename_i h
      have ih := trim_last r
      cases e : trimL r with
      | nil =>
        rw [List.getLast?_singleton]
        intro z
        exact h ⟨e, Option.some.inj z⟩
      | cons y s =>
        rw [List.getLast?_cons_cons, ← e]
        exact ih
theorem lastOk_of {a : List Int} (h : a.getLast? ≠ some 0) : lastOk (a.map V.int) = true := by
  unfold lastOk
  rw [List.getLast?_map]
  cases e : a.getLast? with
  | none => rfl
  | some x =>
    show decide (x ≠ 0) = true
    exact decide_eq_true fun z => h (by rw [e, z])
theorem trim_ok {l : List Int} (h : (trimL l).length ≤ 13) (hb : ∀ n ∈ l, n.natAbs < 2 ^ 200) : RowOk (trimL l) := ⟨h, lastOk_of (trim_last l), fun n hn => hb n (trim_mem hn)⟩
def spNums (K : PySem.W.Frag) (f : List Int → List Int) : Sp := fun vs H Q _ => ∃ (v : V) (a : List Int), vs = [v] ∧ Tp K H v a ∧ a.length ≤ 13 ∧ (∀ n ∈ a, n.natAbs < 2 ^ 200) ∧ ∀ p H', Same H H' → Tp K H' p (f a) → Q p H'
def spRR (K : PySem.W.Frag) (f : List Int → List Int → List Int) : Sp := fun vs H Q _ => ∃ (v v' : V) (a b : List Int), vs = [v, v'] ∧ Tp K H v a ∧ Tp K H v' b ∧ RowOk a ∧ RowOk b ∧ ∀ p H', Same H H' → Tp K H' p (f a b) → Q p H'
def spRP (K : PySem.W.Frag) : Sp := fun vs H Q _ => ∃ (v v' : V) (a b : List Int), vs = [v, v'] ∧ Tp K H v a ∧ Tp K H v' b ∧ RowOk a ∧ RowOk b ∧ (∀ n ∈ a, n.natAbs < 2 ^ 64) ∧ RowOk (mulL a b) ∧ ∀ p H', Same H H' → Tp K H' p (mulL a b) → Q p H'
theorem b29 {n : Nat} (h : n < 2 ^ 200) : n < 2 ^ 9000 := Nat.lt_trans h (Nat.pow_lt_pow_right (by decide) (by decide))
section
variable {P : Program} {w : World} {K :
      PySem.W.Frag} {mg : Str → Option Value} {base : Heap}
abbrev p_n : List Str := ["numbers"]
abbrev n_rprod : List Str := ["row", "other", "found"]
end
end K6

namespace K6
open PySem L2 Ur
section
variable {P : Program} {w : World} {K :
      PySem.W.Frag} {mg : Str → Option Value} {base : Heap}
def spDraw : Sp := fun vs H Q _ => ∃ (u : Addr) (m : Int), vs = [.ref u, .int m] ∧ H u = some (PotO u) ∧ 0 < m ∧ m < 1073741824 ∧ ∀ (r : Int) (H' : Hp), 0 ≤ r → r < m → Same H H' → Q (.int r) H'
abbrev nDraw : List Str := ["_law_pot_here", "_law_many", "_law_digit", "_law_step"]
abbrev pDraw : List Str := ["_law_pot_here", "_law_many"]
theorem scDraw : FnScope nDraw pDraw (defScope sDraw) := ⟨rfl, rfl, rfl, by decide +kernel, rfl, by decide +kernel, by decide +kernel⟩
theorem ok_draw {f : Addr} {fd : FuncData} (F : Fun K "_law_draw" "_law_draw" sDraw f fd) (T : Bl mg) : FnOk P w K mg base CX0 1 f fd pDraw spDraw := by
  refine F.ok scDraw (fun vs H Q E h => ?_) (fun cdv A outer s H vs Q E hr h => ?_)
  · obtain ⟨u, m, rfl, _⟩ := h
    rfl
  · obtain ⟨u, m, rfl, hu, m0, m1, k⟩ := h
    refine ⟨_, pss_pot (pss_cons (ps_if (pt_cmpR op_gt (pe_ix (r := rIxL K) ix_list (pv 0) pe_int (fun _ _ => rfl)) pe_int (nomark _)) (pss_cons (ps_asg (pe_callB call_divmod (by rfl) T.divmod PyProof.Rows.boot_divmod (pa_cons (pe_ix (r := rIxL K) ix_list (pv 0) pe_int (fun _ _ => rfl)) (pa_cons (pv 1) pa_nil))) (pg_tup rfl (pgs_cons (pg_sub (pv 0) pe_int set_list (fun _ => rfl)) (pgs_cons (pg_name (i := 2) scDraw.nd rfl (Or.inl rfl)) pgs_nil))))
      (pss_one (ps_ret (pv 2)))) pss_nil)
      (pss_cons (ps_asg (pe_op op_add (pe_ix (r := rIxL K) ix_list (pv 0) pe_int (fun _ _ => rfl)) pe_int) (pg_sub (pv 0) pe_int set_list (fun _ => rfl)))
      (pss_cons (ps_set (i := 3) scDraw.nd rfl (Or.inl rfl) (pe_op op_add (pe_op op_mod (pe_callTy call_int1 (by rfl) T.int PyProof.Rows.boot_int (pa_cons (pe_ix (r := rIxL K) ix_list (pv 0) pe_int (fun _ _ => rfl)) pa_nil)) pe_int) pe_int))
      (pss_cons (ps_asg (pe_op op_mod (pe_callTy call_int1 (by rfl) T.int PyProof.Rows.boot_int (pa_cons (pe_op op_add (pe_op op_add (pe_op op_mul (pe_ix (r := rIxL K) ix_list (pv 0) pe_int (fun _ _ => rfl)) (pv 3)) (pe_op op_mul pe_int (pe_ix (r := rIxL K) ix_list (pv 0) pe_int (fun _ _ => rfl)))) pe_int) pa_nil)) pe_int) (pg_sub (pv 0) pe_int set_list (fun _ => rfl)))
      (pss_one (ps_ret (pe_op op_mod (pe_callTy call_int1 (by rfl) T.int PyProof.Rows.boot_int (pa_cons (pe_op op_fdiv (pe_ix (r := rIxL K) ix_list (pv 0) pe_int (fun _ _ => rfl)) pe_int) pa_nil)) (pv 1)))))))), ?_⟩
    refine ⟨u, hu, fun a b c B => ?_⟩
    have hq : ∀ (H' : Hp) (r : Int) (a' b' c' : Int), 0 ≤ r → r < m → Bp a' b' c' → (∀ x o, H x = some o → x ≠ u → H' x = some o) → H' u = some (.lst (nums a' b' c')) → ShutP u (Q (.int r)) H' := by
      intro H' r a' b' c' r0 r1 B' keep at'
      refine ⟨a', b', c', B', at', k r _ r0 r1 ?_⟩
      intro x o e
      by_cases z : x = u
      · subst z; rw [hu] at e; cases e; exact upd_same
      · rw [upd_ne z]; exact keep x o e z
    refine ⟨_, rfl, u, nums a b c, 0, _, rfl, rfl, SqL.of upd_same, rfl, _, _, rfl, rfl, _, rfl, ?_⟩
    refine ite2 (fun _
          => ?_) (fun _ => ?_)
    · refine ⟨_, rfl, u, nums a b c, 0, _, rfl, rfl, SqL.of upd_same, rfl, _, rfl, a, m, rfl, ⟨m0, m1⟩, fun p hp => ?_⟩
      have npu : p ≠ u := fun z => by rw [z, upd_same] at hp; cases hp
      have npu2 : u ≠ p := fun z => npu z.symm
      refine ⟨p, _, rfl, SqT.of upd_same, rfl, _, _, rfl, ?_⟩
      refine ⟨_, rfl, u, nums a b c, 0, 0, rfl, rfl, by rw [upd_ne npu2, upd_same], rfl, ?_⟩
      refine ⟨_, _, rfl, rfl, ?_⟩
      refine ⟨_, rfl, ?_⟩
      refine hq _ (a % m) (a / m) b c (Int.emod_nonneg _ (by omega)) (Int.emod_lt_of_pos _ m0) ⟨Int.ediv_nonneg B.a0 (by omega), B.b0, B.b1, B.c0⟩ (fun x o e z => ?_) upd_same
      rw [upd_ne z, upd_ne (ne_of_none (upd_ne z ▸ e : (upd H u _) x = some o) hp), upd_ne z]
      exact e
    · have b2 := B.b1
      have b3 := B.b0
      have c3 := B.c0
      refine ⟨_, rfl, u, nums a b c, 2, _, rfl, rfl, SqL.of upd_same, rfl, _, _, rfl, rfl, ?_⟩
      refine ⟨_, rfl, u, nums a b c, 2, 2, rfl, rfl, upd_same, rfl, ?_⟩
      rw [upd_upd]
      refine ⟨_, rfl, u, nums a b (c + 1), 1, _, rfl, rfl, SqL.of upd_same, rfl, Or.inl ⟨_, rfl, _, _, rfl, rfl, (by show (0 : Int) < 25013; decide), _, _, rfl, rfl, ?_⟩⟩
      have st0 : 0 ≤ b % 25013 := Int.emod_nonneg _ (by decide)
      have st1 : b % 25013 < 25013 := Int.emod_lt_of_pos _ (by decide)
      refine ⟨_, rfl, u, nums a b (c + 1), 1, _, rfl, rfl, SqL.of upd_same, rfl, _, rfl, _, _, rfl, rfl, Or.inl ⟨by omega, by omega⟩, _, rfl, u, nums a b (c + 1), 2, _, rfl, rfl, SqL.of upd_same, rfl, _, _, rfl, rfl, Or.inl ⟨by decide, by decide⟩, _, _, rfl, rfl, _, _, rfl, rfl, Or.inl ⟨_, rfl, _, _, rfl, rfl, (by show (0 : Int) < 2147483587; decide), ?_⟩⟩
      refine ⟨_, rfl, u, nums a b (c + 1), 1, 1, rfl, rfl, upd_same, rfl, ?_⟩
      rw [upd_upd]
      obtain ⟨b', hb'⟩ : ∃ b', b' = (b * (b % 25013 + 17011) + 80021 * (c + 1) + 9) % 2147483587 := ⟨_, rfl⟩
      have b4 : 0 ≤ b' ∧ b' < 2147483587 := ⟨hb' ▸ Int.emod_nonneg _ (by decide), hb' ▸ Int.emod_lt_of_pos _ (by decide)⟩
      generalize hH : upd H u _ = H2
      have hu2 : H2 u = some (.lst (nums a b' (c + 1))) := by
        rw [← hH, upd_same, hb']
        rfl
      have kp2 : ∀ x o, H x = some o → x ≠ u → H2 x = some o := fun x o e z => by
        rw [← hH, upd_ne z]
        exact e
      refine ⟨_, rfl, u, nums a b' (c + 1), 1, _, rfl, rfl, SqL.of hu2, rfl, _, _, rfl, rfl, ⟨by decide, by decide⟩, Or.inl ⟨_, rfl, _, rfl, _, _, rfl, rfl, m0, ?_⟩⟩
      exact hq _ _ a b' (c + 1) (Int.emod_nonneg _ (by omega)) (Int.emod_lt_of_pos _ m0) ⟨B.a0, b4.1, by omega, by omega⟩ kp2 hu2
end
end K6

namespace K6
open PySem L2 Ur
section
variable {P : Program} {w : World} {K :
      PySem.W.Frag} {mg : Str → Option Value} {base : Heap}
abbrev p_of : List Str := ["_law_pot_here", "_law_some"]
theorem sc_of : FnScope p_of p_of (defScope sOf) := ⟨rfl, rfl, rfl, by decide +kernel, rfl, by decide +kernel, by decide +kernel⟩
def spOf : Sp := fun vs H Q _ => ∃ (u l : Addr) (xs : List V), vs = [.ref u, .ref l] ∧ H u = some (PotO u) ∧ H l = some (.lst xs) ∧ 0 < xs.length ∧ xs.length ≤ 1000 ∧ ∀ (x : V) (H' : Hp), x ∈ xs → Same H H' → Q x H'
theorem ok_of {f : Addr} {fd : FuncData} (F : Fun K "_law_of" "_law_of" sOf f fd) (T : Bl mg) (H_law_draw : Has P w K mg base "_law_draw" pDraw 1 spDraw) : FnOk P w K mg base CX0 2 f fd p_of spOf := by
  refine F.ok sc_of (fun vs H Q E h => ?_) (fun cdv A outer s H vs Q E hr h => ?_)
  · obtain ⟨u, l, xs, rfl, _⟩ := h
    rfl
  · obtain ⟨u, l, xs, rfl, hu, hl, h0, h1, q⟩ := h
    refine ⟨_, (pss_one (ps_ret (pe_ix (r := rIxL K) ix_list (pv 1) (pe_has H_law_draw (hr.mono (by decide)) (by rfl) (pa_cons (pv 0) (pa_cons (pe_callB (r := rLen K) len_seq (by rfl) T.len PySem.boot_len (pa_cons (pv 1) pa_nil)) pa_nil))) (fun _ _ => rfl)))), ?_⟩
    refine ⟨_, rfl, _, rfl, _, rfl, l, xs, rfl, Or.inl (SqL.of hl), u, _, rfl, hu, by omega, by omega, fun r H1 r0 r1 s1 => ?_⟩
    obtain ⟨j, rfl⟩ := Int.eq_ofNat_of_zero_le r0
    have hj : j < xs.length := by omega
    exact ⟨l, xs, _, _, rfl, rfl, SqL.of (s1 _ _ hl), atI_nat (List.getElem?_eq_getElem hj), q _ H1 (List.getElem_mem hj) s1⟩
abbrev p_from : List Str := ["_law_pot_here", "_law_low", "_law_high"]
theorem sc_from : FnScope p_from p_from (defScope sFrom) := ⟨rfl, rfl, rfl, by decide +kernel, rfl, by decide +kernel, by decide +kernel⟩
def spFrom : Sp := fun vs H Q _ => ∃ (u : Addr) (lo hi : Int), vs = [.ref u, .int lo, .int hi] ∧ H u = some (PotO u) ∧ lo ≤ hi ∧ -1000 ≤ lo ∧ hi ≤ 1000 ∧ ∀ (r : Int) (H' : Hp), lo ≤ r → r ≤ hi → Same H H' → Q (.int r) H'
theorem ok_from {f : Addr} {fd : FuncData} (F : Fun K "_law_from" "_law_from" sFrom f fd) (H_law_draw : Has P w K mg base "_law_draw" pDraw 1 spDraw) : FnOk P w K mg base CX0 2 f fd p_from spFrom := by
  refine F.ok sc_from (fun vs H Q E h => ?_) (fun cdv A outer s H vs Q E hr h => ?_)
  · obtain ⟨u, _, _, rfl, _⟩ := h
    rfl
  · obtain ⟨u, lo, hi, rfl, hu, h0, h1, h2, q⟩ := h
    refine ⟨_, (pss_one (ps_ret (pe_op op_add (pv 1) (pe_has H_law_draw (hr.mono (by decide)) (by rfl) (pa_cons (pv 0) (pa_cons (pe_op op_add (pe_op op_sub (pv 2) (pv 1)) pe_int) pa_nil)))))), ?_⟩
    refine ⟨_, rfl, _, rfl, _, rfl, _, rfl, _, _, rfl, rfl, _, _, rfl, rfl, u, _, rfl, hu, by omega, by omega, fun r H1 r0 r1 s1 => ?_⟩
    exact ⟨_, _, rfl, rfl, q _ H1 (by omega) (by omega) s1⟩
/-! ### the common divisor -/
abbrev n_lcom : List Str := ["_law_some", "_law_found", "_law_each", "_law_rest_here"]
abbrev p_lcom : List Str := ["_law_some"]
theorem sc_lcom : FnScope n_lcom p_lcom (defScope sLCom) := ⟨rfl, rfl, rfl, by decide +kernel, rfl, by decide +kernel, by decide +kernel⟩
def spLCom (K : PySem.W.Frag) : Sp := fun vs H Q _ => ∃ (a : Addr) (ns : List Int), vs = [.ref a] ∧ (SqL K H a (ns.map V.int) ∨ SqT K H a (ns.map V.int)) ∧ Q (.int (gAll ns : Nat)) H
theorem ok_lcom {f : Addr} {fd : FuncData} (F : Fun K "_law_common" "_law_common" sLCom f fd) (T : Bl mg) : FnOk P w K mg base CX0 1 f fd p_lcom (spLCom K) := by
  refine F.ok sc_lcom (fun vs H Q E h => ?_) (fun cdv A outer s H vs Q E hr h => ?_)
  · obtain ⟨_, _, rfl, _⟩ := h
    rfl
  · obtain ⟨a, ns, rfl, hS | hS, q⟩ := h
    · refine ⟨_, (pss_cons (ps_set (i := 1) sc_lcom.nd rfl (Or.inl rfl) pe_int)
      (pss_cons (ps_for PassesOwn.never rfl (pi_list (pv 0)) (pg_name (i := 2) sc_lcom.nd rfl (Or.inl rfl)) (pss_cons (ps_set (i := 3) sc_lcom.nd rfl (Or.inl rfl) (pe_callB call_abs (by rfl) T.abs PyProof.Rows.boot_abs (pa_cons (pv 2) pa_nil)))
      (pss_one (ps_while PassesOwn.never (pt_cmpR op_gt (pv 3) pe_int (nomark _)) (pss_one (ps_par (i := 1) (j := 3) rfl sc_lcom.nd rfl rfl (by decide) rfl rfl (pa_cons (pv 3) (pa_cons (pe_op op_mod (pe_callTy call_int1 (by rfl) T.int PyProof.Rows.boot_int (pa_cons (pv 1) pa_nil)) (pv 3)) pa_nil)) (by rfl)))))))
      (pss_one (ps_ret (pv 1))))), ?_⟩
      refine ⟨_, rfl, a, rfl, ⟨_, hS⟩, for_list (K := K) (a := a) (xs := ns.map V.int) (fun i σ H' => ∃ x y : Option V, σ = [some (.ref a), some (.int (gAll (ns.take i) : Nat)), x, y] ∧ H' = H) ⟨none, none, rfl, rfl⟩ (fun i σ H' _ h => by obtain ⟨_, _, _, e⟩ := h; exact e ▸ hS) ?_ ?_⟩
      · rintro i y σ H' hi ⟨x, t, rfl, rfl⟩
        obtain ⟨z, hz, rfl⟩ := map_at hi
        refine ⟨_, rfl, _, rfl, ?_⟩
        rw [abs_nat]
        refine ⟨fun m σ H'' => ∃ x y : Nat, m = y ∧ σ = [some (.ref a), some (.int (x : Nat)), some (.int z), some (.int (y : Nat))] ∧ Nat.gcd x y = gAll (ns.take (i + 1)) ∧ H'' = H', ⟨z.natAbs, gAll (ns.take i), z.natAbs, rfl, rfl, (gAll_next hz).symm, rfl⟩, ?_⟩
        rintro y σ H'' ⟨x, _, rfl, rfl, hg, rfl⟩
        refine ⟨_, rfl, _, _,
              rfl, rfl, _, rfl, ?_⟩
        refine ite2 (fun c
              => ?_) (fun c => ?_)
        · have hy : 0 < y := by have := of_decide_eq_true c; omega
          refine ⟨fun σ' H3 => ∃ x' y' : Nat, y' < y ∧ σ' = [some (.ref a), some (.int (x' : Nat)), some (.int z), some (.int (y' : Nat))] ∧ Nat.gcd x' y' = gAll (ns.take (i + 1)) ∧ H3 = H'', fun σ' H3 h => ?_, ?_⟩
          · obtain ⟨x', y', h1, h2, h3, h4⟩ := h
            exact ⟨y', h1, x', y', rfl, h2, h3, h4⟩
          · refine ⟨_, rfl, _, rfl, Or.inl ⟨_, rfl, _, rfl, _, _, rfl, rfl, (by show (0 : Int) < (y : Int); omega), _, _, rfl, ?_⟩⟩
            refine ⟨y, x % y, Nat.mod_lt _ hy, ?_, ?_, rfl⟩
            · rw [Int.natCast_emod]
              rfl
            · rw [← hg, Nat.gcd_comm x y]
              exact (Nat.gcd_rec y x).symm ▸ Nat.gcd_comm _ _
        · have hy : y = 0 := Nat.eq_zero_of_not_pos fun z => c (decide_eq_true (by omega))
          subst hy
          rw [Nat.gcd_zero_right] at hg
          subst hg
          exact ⟨_, _, rfl, rfl⟩
      · rintro σ H' ⟨x, t, rfl, rfl⟩
        rw [List.length_map,
              List.take_length]
        exact ⟨_, rfl, q⟩
    · refine ⟨_, (pss_cons (ps_set (i := 1) sc_lcom.nd rfl (Or.inl rfl) pe_int)
      (pss_cons (ps_for PassesOwn.never rfl (pi_tup (pv 0)) (pg_name (i := 2) sc_lcom.nd rfl (Or.inl rfl)) (pss_cons (ps_set (i := 3) sc_lcom.nd rfl (Or.inl rfl) (pe_callB call_abs (by rfl) T.abs PyProof.Rows.boot_abs (pa_cons (pv 2) pa_nil)))
      (pss_one (ps_while PassesOwn.never (pt_cmpR op_gt (pv 3) pe_int (nomark _)) (pss_one (ps_par (i := 1) (j := 3) rfl sc_lcom.nd rfl rfl (by decide) rfl rfl (pa_cons (pv 3) (pa_cons (pe_op op_mod (pe_callTy call_int1 (by rfl) T.int PyProof.Rows.boot_int (pa_cons (pv 1) pa_nil)) (pv 3)) pa_nil)) (by rfl)))))))
      (pss_one (ps_ret (pv 1))))), ?_⟩
      refine ⟨_, rfl, a, rfl, ⟨_, hS⟩, for_tup (K := K) (a := a) (xs := ns.map V.int) (fun i σ H' => ∃ x y : Option V, σ = [some (.ref a), some (.int (gAll (ns.take i) : Nat)), x, y] ∧ H' = H) ⟨none, none, rfl, rfl⟩ (fun i σ H' _ h => by obtain ⟨_, _, _, e⟩ := h; exact e ▸ hS) ?_ ?_⟩
      · rintro i y σ H' hi ⟨x, t, rfl, rfl⟩
        obtain ⟨z, hz, rfl⟩ := map_at hi
        refine ⟨_, rfl, _, rfl, ?_⟩
        rw [abs_nat]
        refine ⟨fun m σ H'' => ∃ x y : Nat, m = y ∧ σ = [some (.ref a), some (.int (x : Nat)), some (.int z), some (.int (y : Nat))] ∧ Nat.gcd x y = gAll (ns.take (i + 1)) ∧ H'' = H', ⟨z.natAbs, gAll (ns.take i), z.natAbs, rfl, rfl, (gAll_next hz).symm, rfl⟩, ?_⟩
        rintro y σ H'' ⟨x, _, rfl, rfl, hg, rfl⟩
        refine ⟨_, rfl, _, _,
              rfl, rfl, _, rfl, ?_⟩
        refine ite2 (fun c
              => ?_) (fun c => ?_)
        · have hy : 0 < y := by have := of_decide_eq_true c; omega
          refine ⟨fun σ' H3 => ∃ x' y' : Nat, y' < y ∧ σ' = [some (.ref a), some (.int (x' : Nat)), some (.int z), some (.int (y' : Nat))] ∧ Nat.gcd x' y' = gAll (ns.take (i + 1)) ∧ H3 = H'', fun σ' H3 h => ?_, ?_⟩
          · obtain ⟨x', y', h1, h2, h3, h4⟩ := h
            exact ⟨y', h1, x', y', rfl, h2, h3, h4⟩
          · refine ⟨_, rfl, _, rfl, Or.inl ⟨_, rfl, _, rfl, _, _, rfl, rfl, (by show (0 : Int) < (y : Int); omega), _, _, rfl, ?_⟩⟩
            refine ⟨y, x % y, Nat.mod_lt _ hy, ?_, ?_, rfl⟩
            · rw [Int.natCast_emod]
              rfl
            · rw [← hg, Nat.gcd_comm x y]
              exact (Nat.gcd_rec y x).symm ▸ Nat.gcd_comm _ _
        · have hy : y = 0 := Nat.eq_zero_of_not_pos fun z => c (decide_eq_true (by omega))
          subst hy
          rw [Nat.gcd_zero_right] at hg
          subst hg
          exact ⟨_, _, rfl, rfl⟩
      · rintro σ H' ⟨x, t, rfl, rfl⟩
        rw [List.length_map,
              List.take_length]
        exact ⟨_, rfl, q⟩
end
end K6

namespace Ur
open PySem L2 PyProof.Rows
/-! ### t[::-1], t a tuple -/
theorem fm_all {α β : Type} {f : α → Option β} {g : α → β} : ∀ {l : List α}, (∀ m ∈ l, f m = some (g m)) → l.filterMap f = l.map g
  | [], _ => rfl
  | a :: r, h => by
    rw [List.filterMap_cons, h a List.mem_cons_self, List.map_cons, fm_all fun m hm => h m (List.mem_cons_of_mem _ hm)]
theorem back_pick (xs : Array Value) : ((List.range xs.size).filterMap fun (m : Nat) => xs[(((xs.size : Int) - 1) + (m : Int) * (-1)).toNat]?) = xs.toList.reverse := by
  have e : ((List.range xs.size).filterMap fun (m : Nat) => xs[(((xs.size : Int) - 1) + (m : Int) * (-1)).toNat]?) = (List.range xs.size).filterMap fun m => xs[xs.size - 1 - m]? := by
    congr 1
    funext m
    by_cases h : m ≤ xs.size - 1
    · by_cases h0 : xs.size = 0
      · rw [Array.getElem?_eq_none (by omega), Array.getElem?_eq_none (by omega)]
      · rw [show (((xs.size : Int) - 1) + (m : Int) * (-1)).toNat = xs.size - 1 - m by omega]
    · rw [show (((xs.size : Int) - 1) + (m : Int) * (-1)).toNat = xs.size - 1 - m by omega]
  rw [e]
  have e3 : (List.range xs.size).filterMap (fun m => xs[xs.size - 1 - m]?) = (List.range xs.size).map (fun m => xs.toList.getD (xs.size - 1 - m) .none) := by
    refine fm_all fun m hm => ?_
    have : m < xs.size := List.mem_range.mp hm
    rw [List.getD_eq_getElem?_getD, Array.getElem?_toList, Array.getElem?_eq_getElem (by omega)]
    rfl
  rw [e3]
  apply List.ext_getElem?
  intro i
  rw [List.getElem?_map]
  by_cases h : i < xs.size
  · rw [List.getElem?_range h, List.getElem?_reverse (by simpa using h)]
    rw [Option.map_some, List.getD_eq_getElem?_getD, Array.length_toList, List.getElem?_eq_getElem (by rw [Array.length_toList]; omega)]
    rfl
  · rw [List.getElem?_eq_none (by rw [List.length_range]; omega), List.getElem?_eq_none (by rw [List.length_reverse, Array.length_toList]; omega)]
    rfl
section
variable {prog : Program} {w : World} {A :
      Around} {E : Value → Shared → Prop} {s : Shared}
theorem applied_back {sl : Addr} {t1 : Tok} {n : Nat} {Q : Int × Int × Nat → Shared → Prop} (hs : s.heap.IsSliceOf sl .none .none (.int (-1) t1))
    (h : Q ((n : Int) - 1, -1, n) s) : wpAny (model prog w) A (Builtin.Slice.sliceApplied (.ref sl) (pure (n : Int))) Q E s := by
  obtain ⟨os, hoz, hcz, hdz⟩ := id hs
  unfold Builtin.Slice.sliceApplied
        Builtin.Slice.sliceFields
  refine wpAny_bind (wpAny_bind (wpAny_field hoz hdz (x := .none) rfl (wpAny_bind (wpAny_field hoz hdz (x := .none) rfl (wpAny_bind (wpAny_field hoz hdz (x := .int (-1) t1) rfl (wpAny_pure ?_)))))))
  refine wpAny_bind (slicePart_int ?_)
  show wpAny _ _ (if ((-1 : Int) == 0) = true then _ else _) _ _ s
  rw [if_neg (by decide)]
  refine wpAny_bind (slicePart_none (wpAny_bind (slicePart_none (wpAny_bind (wpAny_pure ?_)))))
  show wpAny _ _ (match Builtin.Slice.sliceAdjust none none (-1) (n : Int) with | (lo, hi) => pure (lo, (-1 : Int), Builtin.Slice.slicePlaces lo hi (-1))) _ _ s
  have e : Builtin.Slice.sliceAdjust none none (-1) (n : Int) = ((n : Int) - 1, -1) := rfl
  rw [e]
  have e2 : Builtin.Slice.slicePlaces ((n : Int) - 1) (-1) (-1) = n := by
    delta Builtin.Slice.slicePlaces
    rw [if_neg (by decide)]
    split
    · rw [show (-(-1 : Int)) = 1 from rfl, Int.ediv_one]
      omega
    · omega
  show wpAny _ _ (pure (((n : Int) - 1), (-1 : Int), Builtin.Slice.slicePlaces ((n : Int) - 1) (-1) (-1))) _ _ s
  rw [e2]
  exact wpAny_pure h
theorem item_back {t sl : Addr} {items : Array Value} {t1 : Tok} {Q : Value → Shared → Prop} (ht : IsTup s.heap t items) (hs : s.heap.IsSliceOf sl .none .none (.int (-1) t1))
    (h : Q (.ref s.heap.objs.size) { s with heap := s.heap.push { cls := .type "tuple", data := .seq items.toList.reverse.toArray } }) (hsz : items.size ≤ sizeLine) : wpAny (model prog w) A (getItem (.ref t) (.ref sl)) Q E s := by
  have hbig : sizeOk (.seq items.toList.reverse.toArray) := by
    show items.toList.reverse.toArray.size ≤ sizeLine
    rw [List.size_toArray, List.length_reverse, Array.length_toList]
    exact hsz
  obtain ⟨os, hoz, hcz, hdz⟩ := id hs
  have hTz : s.TypeIs (.ref sl) "slice" := ⟨os, hoz, hcz⟩
  unfold getItem
  try with_reducible
        refine wpAny_holding ?_
  first | (refine wpAny_bind (wpAny_pure ?_)) | skip
  refine wpAny_bind (wpAny_sequenceKey
        ht.typeIs (by decide) ?_)
  refine wpAny_bind (wpAny_callSpecial?_slot (name := Str.ofString
        "__getitem__") ht.typeIs PyProof.Rows.slot_tuple_getitem
    (wpAny_call_entry PyProof.Rows.slot_tuple_getitem
          ht.typeIs entry_tuple_getitem ?_ (args_tuple_getitem _ _)))
  show wpAny _ _ (Builtin.Tuple.tupleItemsOf
        (.ref t) >>= _) _ _ s
  refine wpAny_bind
        (tupleItemsOf_ ht ?_)
  refine wpAny_bind (wpAny_typeOf hTz ?_)
  rw [if_pos (by decide)]
  refine wpAny_bind (applied_back (t1 := t1) hs ?_)
  have hno : ¬ ((((items.size : Int) - 1) == 0 && (-1 : Int) == 1 && items.size == items.size) = true) := by
    intro q
    rw [Bool.and_eq_true,
          Bool.and_eq_true] at q
    exact absurd q.1.2 (by decide)
  show wpAny _ _ (if (((items.size : Int) - 1) == 0 && (-1 : Int) == 1 && items.size == items.size) = true then _ else _) _ _ s
  rw [if_neg hno, back_pick]
  first
    | exact wpAny_bind (m := Builtin.Tuple.tupleExact _) (wpAny_newObj_type (wpAny_pure ⟨_, rfl, wpAny_pure h⟩) hbig)
    | exact wpAny_bind (m := Builtin.Tuple.tupleExact _) (wpAny_newObj_type (wpAny_bind (wpAny_pure (wpAny_pure ⟨_, rfl, wpAny_pure h⟩))) hbig)
    | exact wpAny_bind (wpAny_bind (m := Builtin.Tuple.tupleExact _) (wpAny_newObj_type (wpAny_pure (wpAny_pure ⟨_, rfl, wpAny_pure h⟩)) hbig))
    | exact wpAny_bind (wpAny_bind (m := Builtin.Tuple.tupleExact _) (wpAny_newObj_type (wpAny_pure ⟨_, rfl, wpAny_pure h⟩) hbig))
end
section
variable {X : Cx}
def tRevT (K : PySem.W.Frag) (te : TE) : TE := fun σ H Q => te σ H fun x H1 => ∃ a xs, x = .ref a ∧ SqT K H1 a xs ∧ ∀ p, H1 p = none → Q (.ref p) (upd H1 p (.tup xs.reverse))
theorem pe_revT {e : Expr} {te : TE} {k : Nat} {p1 p2 p3 pos : Pos} (he : PE X e te) : PE X (.Subscript e (.Slice none none (some (.UnaryOp .USub (.Constant (.int 1) k p1) p2)) p3) pos) (tRevT X.K te) := by
  refine ⟨fun pins
        s σ H Q I h => ?_⟩
  refine Subscript_ (thn (he.run pins s σ H
        _ I h) fun v s1 ⟨x, H1, I1, r1, q1⟩ => ?_)
  obtain ⟨a, xs,
        ex, hx, q⟩ := q1
  subst ex
  cases r1
  have hsz0 : PO X (some (.UnaryOp .USub (.Constant (.int 1) k p1) p2)) (tPart (tUn (rU fun i => .int (-i)) (tC (.int 1)))) := po_some (pe_un un_neg pe_int)
  refine wpAny_Slice (thn (po_none.run pins s1 σ H1 (fun o H2 => o = none ∧ H2 = H1) I1 ⟨rfl, rfl⟩) fun vl s2 ⟨l, H2, IR, pl, el, e2⟩ => ?_)
  subst el e2
  refine thn (po_none.run pins s2 σ H2 (fun o H3 => o = none ∧ H3 = H2) IR ⟨rfl, rfl⟩) fun vu s3 ⟨u, H3, IT, pu, eu, e3⟩ => ?_
  subst eu e3
  refine thn (hsz0.run pins s3 σ H3 (fun o H4 => o = some (-1) ∧ H4 = H3) IT ⟨1, rfl, -1, rfl, rfl, rfl⟩) fun vs s4 ⟨o, H4, IU, ps, eo, e4⟩ => ?_
  subst eo e4
  have IV : Inv X pins σ H4 { s4 with heap := s4.heap.push { cls := .type "slice", data := .fields #[vl, vu, vs] } } := IU.kept (t' := s4.toks) fun b ob q => Heap.get?_push_of_some _ q
  obtain ⟨its, r, ht, hz⟩ := IV.tuple hx
  have hlen := r.length
  show wpAny (model X.prog X.w) X.A (subscriptTail e (.Slice none none (some (.UnaryOp .USub (.Constant (.int 1) k p1) p2)) p3) (.ref a)
        (.ref s4.heap.objs.size)) (EP X pins σ Q) X.xe { s4 with heap := s4.heap.push { cls := .type "slice", data := .fields #[vl, vu, vs] } }
  refine tail_any (ops := [.ref a, .ref s4.heap.objs.size]) ht.typeIs (PyProof.Rows.slot_tuple_getitem.lookup) ?_ (by with_unfolding_all rfl)
  cases pl
  cases pu
  cases ps with
  | int i t1 =>
    refine item_back (t1 := t1) ht (Heap.IsSliceOf.new ..) ?_ (by rw [List.size_toArray]; omega)
    refine ⟨.ref _, _, IV.laid (t' := s4.toks) (o := .tup xs.reverse) (fun b ob q => Heap.get?_push_of_some _ q) (Nat.le_refl _) ?_, rfl, q _ (IV.hok.fresh (Nat.le_refl _))⟩
    exact ⟨by rw [List.length_reverse]; exact hz, _, r.reverse, IsTup.new _ _⟩
end
end Ur

namespace K6
open PySem L2 Ur
theorem p400 {x : Int} (h : x.natAbs ≤ 2 ^ 400) : x.natAbs < 2 ^ 401 := Nat.lt_of_le_of_lt h (Nat.pow_lt_pow_right (by decide) (by decide))
theorem mul800 {x y : Int} (hx : x.natAbs ≤ 2 ^ 400) (hy : y.natAbs ≤ 2 ^ 400) : (x * y).natAbs ≤ 2 ^ 800 := by
  rw [Int.natAbs_mul]
  have := Nat.mul_le_mul hx hy
  rwa [← Nat.pow_add] at this
theorem to1000 {n : Nat} (h : n ≤ 2 ^ 800 + 2 ^ 800) : n ≤ 2 ^ 1000 := by
  refine Nat.le_trans h ?_
  have e : 2 ^ 800 + 2 ^ 800 = 2 ^ 801 := by rw [← Nat.two_mul, Nat.mul_comm, ← Nat.pow_succ]
  rw [e]
  exact Nat.pow_le_pow_right (by decide) (by decide)
section
variable {P : Program} {w : World} {K :
      PySem.W.Frag} {mg : Str → Option Value} {base : Heap}
abbrev n_lpart : List Str := ["_law_top", "_law_low", "_law_by"]
abbrev p_lpart : List Str := ["_law_top", "_law_low"]
def plusL : List Int → List Int → List Int
  | [x, w], [u, z] => thin [x * z + u * w, w * z]
  | _, _ => []
def timesL : List Int → List Int → List Int
  | [x, w], [u, z] => thin [x * u, w * z]
  | _, _ => []
def spFF (K : PySem.W.Frag) (f : List Int → List Int → List Int) : Sp := fun vs H Q _ => ∃ (v v' : V) (x w u z : Int), vs = [v, v'] ∧ Tp K H v [x, w] ∧ Tp K H v' [u, z] ∧ 0 < w ∧ 0 < z ∧ x.natAbs ≤ 2 ^ 400 ∧ w.natAbs ≤ 2 ^ 400 ∧ u.natAbs ≤ 2 ^ 400 ∧ z.natAbs ≤ 2 ^ 400 ∧ ∀ p H', Same H H' → Tp K H' p (f [x, w] [u, z]) → Q p H'
abbrev p_lot : List Str := ["_law_one", "_law_two"]
end
end K6

namespace K6
open PySem L2 Ur
theorem thin_scale {k x w : Int} (hk : 0 < k) (hw : 0 < w) : thin [k * x, k * w] = thin [x, w] := by
  have h1 := g2_pos (x := x) hw
  have h2 := g2_pos (x := k * x) (Int.mul_pos hk hw)
  rw [thin_eq h1, thin_eq h2]
  have e : ((gAll [k * x, k * w] : Nat) : Int) = k * ((gAll [x, w] : Nat) : Int) := by
    rw [gAll_2, gAll_2, Int.natAbs_mul, Int.natAbs_mul, Nat.gcd_mul_left, Int.natCast_mul, Int.natAbs_of_nonneg (Int.le_of_lt hk)]
  rw [e]
  show [k * x / _, k * w / _] = [x / _, w / _]
  rw [Int.mul_ediv_mul_of_pos _ _ hk, Int.mul_ediv_mul_of_pos _ _ hk]
theorem worth_low {n m : Int} {a : List Int} (hm : 0 < m) : thin [Hh n m a * m, m ^ a.length] = worthL n m a := by
  unfold worthL
  cases a with
  | nil =>
    show thin [0 * m, m ^ 0] = thin [0, m ^ 0]
    rw [Int.zero_mul]
  | cons c r =>
    show thin [Hh n m (c :: r) * m, m ^ (r.length + 1)] = thin [Hh n m (c :: r), m ^ r.length]
    rw [Int.mul_comm, Int.pow_succ, Int.mul_comm (m ^ r.length)]
    exact thin_scale hm (pow_pos9 hm _)
section
variable {P : Program} {w : World} {K :
      PySem.W.Frag} {mg : Str → Option Value} {base : Heap}
abbrev n_ltrim : List Str := ["_law_some", "_law_many"]
abbrev p_some : List Str := ["_law_some"]
theorem sc_ltrim : FnScope n_ltrim p_some (defScope sLTrim) := ⟨rfl, rfl, rfl, by decide +kernel, rfl, by decide +kernel, by decide +kernel⟩
def spLTrim (K : PySem.W.Frag) : Sp := fun vs H Q _ => ∃ (a : Addr) (ns : List Int), vs = [.ref a] ∧ SqL K H a (ns.map V.int) ∧ ns.length ≤ 1000 ∧ ∀ p H', Same H H' → Tp K H' p (trimL ns) → Q p H'
theorem ok_ltrim {f : Addr} {fd : FuncData} (F : Fun K "_law_trim" "_law_trim" sLTrim f fd) (T : Bl mg) : FnOk P w K mg base CX0 1 f fd p_some (spLTrim K) := by
  refine F.ok sc_ltrim (fun vs H Q E h => ?_) (fun cdv A outer s H vs Q E hr h => ?_)
  · obtain ⟨_, _, rfl, _⟩ := h
    rfl
  · obtain ⟨a, ns, rfl, hS, hl, q⟩ := h
    refine ⟨_, (pss_cons (ps_set (i := 1) sc_ltrim.nd rfl (Or.inl rfl) (pe_callB (r := rLen K) len_seq (by rfl) T.len PySem.boot_len (pa_cons (pv 0) pa_nil)))
      (pss_cons (ps_while PassesOwn.never ((pw_and (pt_cmpR op_gt (pv 1) pe_int (nomark _)) (pw_and1 (pt_cmpR op_eq (pe_ix (r := rIxL K) ix_list (pv 0) (pe_op op_sub (pv 1) pe_int) (fun _ _ => rfl)) pe_int (nomark _))))).pt (pss_one (ps_set (i := 1) sc_ltrim.nd rfl (Or.inl rfl) (pe_op op_sub (pv 1) pe_int))))
      (pss_one (ps_ret (pe_callTy call_tuple_of (by rfl) T.tuple PyProof.Rows.boot_tuple (pa_cons (pe_slice sl_list (pv 0) po_none (po_some (pv 1))) pa_nil)))))), ?_⟩
    show _
    refine ⟨_, rfl, a, _, rfl, Or.inl hS, ?_⟩
    refine ⟨fun m σ H' => Left ns a m σ ∧ H' = H, ⟨ns.length, ⟨Nat.le_refl _, by rw [List.length_map]; rfl, by rw [List.take_length]⟩, rfl⟩, ?_⟩
    rintro m σ H' ⟨⟨hm, rfl, e⟩, rfl⟩
    refine ⟨_, rfl, _, _,
          rfl, rfl, _, rfl, ?_⟩
    refine ite2 (fun c
          => ?_) (fun c => ?_)
    · obtain ⟨j, rfl⟩ : ∃ j, m = j + 1 := ⟨m - 1, by have := of_decide_eq_true c; omega⟩
      have hj : j < ns.length := by omega
      refine ⟨_, rfl, _, rfl, _, _, rfl, rfl, a, _, _, V.int ns[j], rfl, rfl, hS, ?_, rfl, _, rfl, ?_⟩
      · rw [show (((j + 1 : Nat) : Int) - 1) = ((j : Nat) : Int) by omega]
        exact atI_nat (by simp [hj])
      · refine ite2 (fun d => ?_) (fun d => ?_)
        · have z : ns[j] = 0 := V.int.inj (of_decide_eq_true d)
          refine ⟨fun σ' H'' => Left ns a j σ' ∧ H'' = H', fun σ' H'' h => ⟨j, Nat.lt_succ_self j, h⟩, ⟨_, rfl, _, _, rfl, rfl, ⟨⟨by omega, ?_, left_step (by simp [hj, z]) e⟩, rfl⟩⟩⟩
          show [some (V.ref a), some (V.int (((j + 1 : Nat) : Int) - 1))] = _
          rw [show (((j + 1 : Nat) : Int) - 1) = ((j : Nat) : Int) by omega]
        · have z : ns[j] ≠ 0 := fun y => d (decide_eq_true (by rw [y]))
          have hend := left_end (by simp [hj]) z e
          refine ⟨_, rfl, _, rfl, ((j + 1 : Nat) : Int), rfl, a, _, rfl, hS, fun p hp => ⟨p, _, rfl, Or.inl ⟨SqL.of upd_same, fun l hl2 => ?_⟩⟩⟩
          refine q _ _ ((same_new hp).trans (same_new hl2)) ⟨l, rfl, ?_⟩
          rw [cut_to, hend]
          exact SqT.of upd_same
    · have z : m = 0 := Nat.eq_zero_of_not_pos fun y => c (decide_eq_true (by omega))
      subst z
      have hend : ns.take 0 = trimL ns := e
      refine ⟨_, rfl, _, rfl, ((0 : Nat) : Int), rfl, a, _, rfl, hS, fun p hp => ⟨p, _, rfl, Or.inl ⟨SqL.of upd_same, fun l hl2 => ?_⟩⟩⟩
      refine q _ _ ((same_new hp).trans (same_new hl2)) ⟨l, rfl, ?_⟩
      rw [cut_to, hend]
      exact SqT.of upd_same

/-! ### worths -/
abbrev n_lworth : List Str := ["_law_row_here", "_law_part_here", "_law_found", "_law_low", "_law_each"]
abbrev p_lworth : List Str := ["_law_row_here", "_law_part_here"]
end
end K6

namespace Ur
open PySem L2
/-- [elt for x in range(lo, hi)] -/
theorem lcR2 {te : TE} {vs : List Nat} {j : Nat} {σ : L2.St} {Q : VK} {ta : TA} {lo hi : Int} {H0 : Hp} (Pe : Nat → V → Prop) (hx : ∀ R : List V → Hp → Prop, R [.int lo, .int hi] H0 → ta σ H0 R) (hl : 0 ≤ lo ∧ lo ≤ 1000) (hh : 0 ≤ hi ∧ hi ≤ 100000) (hw : ∀ x, wipe ((wipe σ vs).set j (some x)) vs = wipe σ vs)
    (he : ∀ (i : Nat) H3, lo + (i : Int) < hi → Same H0 H3 → ∀ Q' : VK, (∀ y H4, Pe i y → Same H3 H4 → Q' y H4) → te ((wipe σ vs).set j (some (.int (lo + (i : Int))))) H3 Q')
    (hq : ∀ D ys H', H0 D = none → Same H0 H' → H' D = some (.lst ys) → ys.length = (hi - lo).toNat → (∀ i y, ys[i]? = some y → Pe i y) → Q (.ref D) H') : tLc (iRng2 ta) (gName j) tYes te vs σ H0 Q := by
  refine hx _ ⟨lo, hi, rfl, ⟨by omega, by omega, by omega, by omega⟩, fun D hD => ?_⟩
  refine lc_range (lo := lo) (n := (hi - lo).toNat) (Made H0 Pe D) (.start hD) (fun i H' hi m => ⟨hw _, ?_⟩) (fun H' ⟨hn, sm, ys, h1, h2, h3⟩ => hq D ys H' hn sm h1 h2 h3)
  unfold tYes
  dsimp only
  rw [if_pos rfl]
  exact m.turn (by omega) (he i H' (by omega) m.same)
end Ur
namespace K6
open PySem L2 Ur
section
variable {P : Program} {w : World} {K :
      PySem.W.Frag} {mg : Str → Option Value} {base : Heap}
abbrev n_lgrown : List Str := ["_law_row_here", "_law_k"]
abbrev p_lgrown : List Str := ["_law_row_here"]
/-! ### sums, products -/
theorem addL_lst {a b : List Int} : addL a b = lst (max a.length b.length) fun i => a.getD i 0 + b.getD i 0 := by
  apply List.ext_getElem?
  intro i
  by_cases h : i < max a.length b.length
  · rw [lst_at h, addL_at a b i h]
  · rw [List.getElem?_eq_none (by rw [addL_len]; omega), List.getElem?_eq_none (by rw [lst_len]; omega)]
def upto (base : Nat → Int) (r : List Int) (k : Nat) : Nat → Int := fun i => base i + if i < k then r.getD i 0 else 0
theorem upto_all {base : Nat → Int} {r : List Int} : upto base r r.length = fun i => base i + r.getD i 0 := by
  funext i
  unfold upto
  by_cases h : i < r.length
  · rw [if_pos h]
  · rw [if_neg h, List.getD_eq_getElem?_getD, List.getElem?_eq_none (by omega)]
    rfl
theorem upto_step {base : Nat → Int} {r : List Int} {k : Nat} (i : Nat) : upto base r (k + 1) i = if i = k then upto base r k k + r.getD k 0 else upto base r k i := by
  unfold upto
  by_cases h : i = k
  · subst h
    rw [if_pos rfl, if_pos (by omega), if_neg (by omega), Int.add_zero]
  · rw [if_neg h]
    by_cases h2 : i < k
    · rw [if_pos h2, if_pos (by omega)]
    · rw [if_neg h2, if_neg (by omega)]
theorem upto_zero {base : Nat → Int} {r : List Int} : upto base r 0 = base := by
  funext i
  unfold upto
  rw [if_neg (by omega), Int.add_zero]
theorem vals_zero {ys : List V} {n : Nat} (hl : ys.length = n) (h : ∀ (i : Nat) (y : V), ys[i]? = some y → y = V.int 0) : ys = (lst n fun _ => 0).map V.int := vals_map (f := fun _ => 0) hl h
abbrev n_ladded : List Str := ["_law_one", "_law_two", "_law_some", "_law_row_here", "_law_k", "_law_turn"]
def spL2 (K : PySem.W.Frag) (f : List Int → List Int → List Int) : Sp := fun vs H Q _ => ∃ (v v' : V) (a b : List Int), vs = [v, v'] ∧ Tp K H v a ∧ Tp K H v' b ∧ a.length ≤ 100 ∧ b.length ≤ 100 ∧ (∀ n ∈ a, n.natAbs < 2 ^ 64) ∧ ∀ p H', Same H H' → Tp K H' p (f a b) → Q p H'
end
end K6

namespace K6
open PySem L2 Ur
section
variable {P : Program} {w : World} {K :
      PySem.W.Frag} {mg : Str → Option Value} {base : Heap}
abbrev n_lmult : List Str := ["_law_one", "_law_two", "_law_some", "_law_k", "_law_j", "_law_turn"]
theorem sc_lmult : FnScope n_lmult p_lot (defScope sLMult) := ⟨rfl, rfl, rfl, by decide +kernel, rfl, by decide +kernel, by decide +kernel⟩
def spMul (K : PySem.W.Frag) : Sp := fun vs H Q _ => ∃ (v v' : V) (a b : List Int), vs = [v, v'] ∧ Tp K H v a ∧ (Tp K H v' b ∨ ∃ tb : Addr, v' = .ref tb ∧ SqL K H tb (b.map V.int)) ∧ a.length ≤ 100 ∧ b.length ≤ 100 ∧ (∀ n ∈ a, n.natAbs < 2 ^ 64) ∧ ∀ p H', Same H H' → Tp K H' p (mulL a b) → Q p H'
theorem ok_lmult {f : Addr} {fd : FuncData} (F : Fun K "_law_multiplied" "_law_multiplied" sLMult f fd) (T : Bl mg) (H_law_trim : Has P w K mg base "_law_trim" p_some 1 (spLTrim K)) : FnOk P w K mg base CX0 2 f fd p_lot (spMul K) := by
  refine F.ok sc_lmult (fun vs H Q E h => ?_) (fun cdv A outer s H vs Q E hr h => ?_)
  · obtain ⟨_, _, _, _, rfl, _⟩ := h
    rfl
  · obtain ⟨va, vb, a, b, rfl, ⟨ta, rfl, sa⟩, ⟨tb, rfl, sb⟩ | ⟨tb, rfl, sb⟩, la, lb, ba, q⟩ := h
    · refine ⟨_, (pss_cons (ps_setLc (i := 2) (own := [("_law_turn", 5)]) (g := gName 5) (tt := tYes) rfl sc_lmult.nd rfl rfl (sw_true rfl rfl rfl (by decide +kernel)) (pi_range1 (by rfl) T.range (pa_cons (pe_op op_add (pe_callB (r := rLen K) len_seq (by rfl) T.len PySem.boot_len (pa_cons (pv 0) pa_nil)) (pe_callB (r := rLen K) len_seq (by rfl) T.len PySem.boot_len (pa_cons (pv 1) pa_nil))) pa_nil)) (blkOk_by (N := n_lmult) (sc := defScope sLMult) (by decide +kernel)) (fun _ _ _ _ _ => pg_name (i := 5) sc_lmult.nd rfl (Or.inl rfl)) (fun _ _ _ _ _ => pts_nil) (fun _ _ _ _ _ => pe_int))
      (pss_cons (ps_for PassesOwn.never rfl (pi_range1 (by rfl) T.range (pa_cons (pe_callB (r := rLen K) len_seq (by rfl) T.len PySem.boot_len (pa_cons (pv 0) pa_nil)) pa_nil)) (pg_name (i := 3) sc_lmult.nd rfl (Or.inl rfl)) (pss_one (ps_for PassesOwn.never rfl (pi_range1 (by rfl) T.range (pa_cons (pe_callB (r := rLen K) len_seq (by rfl) T.len PySem.boot_len (pa_cons (pv 1) pa_nil)) pa_nil)) (pg_name (i := 4) sc_lmult.nd rfl (Or.inl rfl)) (pss_one (ps_asg (pe_op op_add (pe_ix (r := rIxL K) ix_list (pv 2) (pe_op op_add (pv 3) (pv 4)) (fun _ _ => rfl)) (pe_op op_mul (pe_ix (r := rIxT K) ix_tup (pv 0) (pv 3) (fun _ _ => rfl)) (pe_ix (r := rIxT K) ix_tup (pv 1) (pv 4) (fun _ _ => rfl)))) (pg_sub (pv 2) (pe_op op_add (pv 3) (pv 4)) set_list (fun _ => rfl)))))))
      (pss_one (ps_ret (pe_has H_law_trim (hr.mono (by decide)) (by rfl) (pa_cons (pv 2) pa_nil)))))), ?_⟩
      refine seq_of (asg_of ?_)
      refine lcR (n := ((a.length + b.length : Nat) : Int)) (fun i y => y = .int 0) (fun R r => ⟨_, rfl, ta, _, rfl, Or.inr sa, _, rfl, tb, _, rfl, Or.inr sb, _, _, rfl, rfl, ?_⟩) (by omega) (by omega) (fun x => rfl) (fun i H3 hi sm Q' q' => q' _ _ rfl (Same.refl _)) (fun D ys H2 hD s2 hy e1 e2 => ?_)
      · rw [List.length_map, List.length_map]
        exact r H (Same.refl _)
      have ey := vals_zero (n := a.length + b.length) (by omega) e2
      rw [ey] at hy
      generalize hN : a.length + b.length = N at hy
      have F0 : Found H D N (cv a b 0) H2 := ⟨hD, s2, hy⟩
      refine ⟨_, rfl, ta, _, rfl, Or.inr (same_sqT s2 sa), ?_⟩
      rw [List.length_map]
      refine ⟨((a.length : Nat) : Int), rfl, by omega, by omega, for_range (lo := 0) (n := a.length) (fun k σ H' => ∃ x y : Option V, σ = [some (.ref ta), some (.ref tb), some (.ref D), x, y, none] ∧ Found H D N (cv a b k) H') ⟨none, none, rfl, F0⟩ ?_ ?_⟩
      · rintro k σ H' hk ⟨x, y, rfl, F1⟩
        have e0 : (0 : Int) + (k : Int) = ((k : Nat) : Int) := by omega
        rw [e0]
        have hnb := ba a[k] (List.getElem_mem hk)
        refine ⟨_, rfl, tb, _, rfl, Or.inr (same_sqT F1.same sb), ?_⟩
        rw [List.length_map]
        refine ⟨((b.length : Nat) : Int), rfl, by omega, by omega, for_range (lo := 0) (n := b.length) (fun j σ H' => ∃ y : Option V, σ = [some (.ref ta), some (.ref tb), some (.ref D), some (.int (k : Nat)), y, none] ∧ Found H D N (rowAdd (cv a b k) k a[k] b j) H') ⟨y, rfl, by rw [rowAdd_zero]; exact F1⟩ ?_ ?_⟩
        · rintro j σ H' hj ⟨y, rfl, F4⟩
          have e3 : (0 : Int) + (j : Int) = ((j : Nat) : Int) := by omega
          rw [e3]
          have hkj : k + j < N := by omega
          have e1 : ((k : Nat) : Int) + ((j : Nat) : Int) = ((k + j : Nat) : Int) := by omega
          refine ⟨_, rfl, _, rfl, _, rfl, _, _, rfl, rfl, D, _, _, V.int (rowAdd (cv a b k) k a[k] b j (k + j)), rfl, rfl, SqL.of F4.held, ?_, _, rfl, _, rfl, ta, _, _, V.int a[k], rfl, rfl, same_sqT F4.same sa, atI_nat (by simp [hk]), _, rfl, _, rfl, tb, _, _, V.int b[j], rfl, rfl, same_sqT F4.same sb, atI_nat (by simp [hj]), _, _, rfl, rfl, Or.inl (by omega), _, _, rfl, rfl, ?_⟩
          · rw [e1]
            exact atI_nat (by rw [List.getElem?_map, lst_at hkj]; rfl)
          · refine ⟨_, rfl, _, rfl, _, rfl, _, _, rfl, rfl, D, _, _, k + j, rfl, rfl, F4.held, ?_, ⟨_, rfl, F4.put fun i hi => ?_⟩⟩
            · rw [e1, List.length_map, lst_len]
              unfold ixN
              rw [if_pos (by omega),
                    if_pos (by omega)]
              rfl
            · rw [rowAdd_step, List.getD_eq_getElem?_getD, List.getElem?_eq_getElem hj]
              rfl
        · rintro σ H' ⟨y, rfl, F4⟩
          refine ⟨_, _, rfl, ?_⟩
          have : cv a b (k + 1) = rowAdd (cv a b k) k a[k] b b.length := by
            show rowAdd (cv a b k) k (a.getD k 0) b b.length = _
            rw [List.getD_eq_getElem?_getD, List.getElem?_eq_getElem hk]
            rfl
          rw [this]
          exact F4
      · rintro σ H' ⟨x, y, rfl, F1⟩
        refine ⟨_, rfl, D, _, rfl, SqL.of F1.held, by rw [lst_len]; omega, fun p H4 s4 tp => q p H4 (F1.same.trans s4) ?_⟩
        unfold mulL
        rw [hN]
        exact tp
    · refine ⟨_, (pss_cons (ps_setLc (i := 2) (own := [("_law_turn", 5)]) (g := gName 5) (tt := tYes) rfl sc_lmult.nd rfl rfl (sw_true rfl rfl rfl (by decide +kernel)) (pi_range1 (by rfl) T.range (pa_cons (pe_op op_add (pe_callB (r := rLen K) len_seq (by rfl) T.len PySem.boot_len (pa_cons (pv 0) pa_nil)) (pe_callB (r := rLen K) len_seq (by rfl) T.len PySem.boot_len (pa_cons (pv 1) pa_nil))) pa_nil)) (blkOk_by (N := n_lmult) (sc := defScope sLMult) (by decide +kernel)) (fun _ _ _ _ _ => pg_name (i := 5) sc_lmult.nd rfl (Or.inl rfl)) (fun _ _ _ _ _ => pts_nil) (fun _ _ _ _ _ => pe_int))
      (pss_cons (ps_for PassesOwn.never rfl (pi_range1 (by rfl) T.range (pa_cons (pe_callB (r := rLen K) len_seq (by rfl) T.len PySem.boot_len (pa_cons (pv 0) pa_nil)) pa_nil)) (pg_name (i := 3) sc_lmult.nd rfl (Or.inl rfl)) (pss_one (ps_for PassesOwn.never rfl (pi_range1 (by rfl) T.range (pa_cons (pe_callB (r := rLen K) len_seq (by rfl) T.len PySem.boot_len (pa_cons (pv 1) pa_nil)) pa_nil)) (pg_name (i := 4) sc_lmult.nd rfl (Or.inl rfl)) (pss_one (ps_asg (pe_op op_add (pe_ix (r := rIxL K) ix_list (pv 2) (pe_op op_add (pv 3) (pv 4)) (fun _ _ => rfl)) (pe_op op_mul (pe_ix (r := rIxT K) ix_tup (pv 0) (pv 3) (fun _ _ => rfl)) (pe_ix (r := rIxL K) ix_list (pv 1) (pv 4) (fun _ _ => rfl)))) (pg_sub (pv 2) (pe_op op_add (pv 3) (pv 4)) set_list (fun _ => rfl)))))))
      (pss_one (ps_ret (pe_has H_law_trim (hr.mono (by decide)) (by rfl) (pa_cons (pv 2) pa_nil)))))), ?_⟩
      refine seq_of (asg_of ?_)
      refine lcR (n := ((a.length + b.length : Nat) : Int)) (fun i y => y = .int 0) (fun R r => ⟨_, rfl, ta, _, rfl, Or.inr sa, _, rfl, tb, _, rfl, Or.inl sb, _, _, rfl, rfl, ?_⟩) (by omega) (by omega) (fun x => rfl) (fun i H3 hi sm Q' q' => q' _ _ rfl (Same.refl _)) (fun D ys H2 hD s2 hy e1 e2 => ?_)
      · rw [List.length_map, List.length_map]
        exact r H (Same.refl _)
      have ey := vals_zero (n := a.length + b.length) (by omega) e2
      rw [ey] at hy
      generalize hN : a.length + b.length = N at hy
      have F0 : Found H D N (cv a b 0) H2 := ⟨hD, s2, hy⟩
      refine ⟨_, rfl, ta, _, rfl, Or.inr (same_sqT s2 sa), ?_⟩
      rw [List.length_map]
      refine ⟨((a.length : Nat) : Int), rfl, by omega, by omega, for_range (lo := 0) (n := a.length) (fun k σ H' => ∃ x y : Option V, σ = [some (.ref ta), some (.ref tb), some (.ref D), x, y, none] ∧ Found H D N (cv a b k) H') ⟨none, none, rfl, F0⟩ ?_ ?_⟩
      · rintro k σ H' hk ⟨x, y, rfl, F1⟩
        have e0 : (0 : Int) + (k : Int) = ((k : Nat) : Int) := by omega
        rw [e0]
        have hnb := ba a[k] (List.getElem_mem hk)
        refine ⟨_, rfl, tb, _, rfl, Or.inl (F1.same.seq sb), ?_⟩
        rw [List.length_map]
        refine ⟨((b.length : Nat) : Int), rfl, by omega, by omega, for_range (lo := 0) (n := b.length) (fun j σ H' => ∃ y : Option V, σ = [some (.ref ta), some (.ref tb), some (.ref D), some (.int (k : Nat)), y, none] ∧ Found H D N (rowAdd (cv a b k) k a[k] b j) H') ⟨y, rfl, by rw [rowAdd_zero]; exact F1⟩ ?_ ?_⟩
        · rintro j σ H' hj ⟨y, rfl, F4⟩
          have e3 : (0 : Int) + (j : Int) = ((j : Nat) : Int) := by omega
          rw [e3]
          have hkj : k + j < N := by omega
          have e1 : ((k : Nat) : Int) + ((j : Nat) : Int) = ((k + j : Nat) : Int) := by omega
          refine ⟨_, rfl, _, rfl, _, rfl, _, _, rfl, rfl, D, _, _, V.int (rowAdd (cv a b k) k a[k] b j (k + j)), rfl, rfl, SqL.of F4.held, ?_, _, rfl, _, rfl, ta, _, _, V.int a[k], rfl, rfl, same_sqT F4.same sa, atI_nat (by simp [hk]), _, rfl, _, rfl, tb, _, _, V.int b[j], rfl, rfl, F4.same.seq sb, atI_nat (by simp [hj]), _, _, rfl, rfl, Or.inl (by omega), _, _, rfl, rfl, ?_⟩
          · rw [e1]
            exact atI_nat (by rw [List.getElem?_map, lst_at hkj]; rfl)
          · refine ⟨_, rfl, _, rfl, _, rfl, _, _, rfl, rfl, D, _, _, k + j, rfl, rfl, F4.held, ?_, ⟨_, rfl, F4.put fun i hi => ?_⟩⟩
            · rw [e1, List.length_map, lst_len]
              unfold ixN
              rw [if_pos (by omega),
                    if_pos (by omega)]
              rfl
            · rw [rowAdd_step, List.getD_eq_getElem?_getD, List.getElem?_eq_getElem hj]
              rfl
        · rintro σ H' ⟨y, rfl, F4⟩
          refine ⟨_, _, rfl, ?_⟩
          have : cv a b (k + 1) = rowAdd (cv a b k) k a[k] b b.length := by
            show rowAdd (cv a b k) k (a.getD k 0) b b.length = _
            rw [List.getD_eq_getElem?_getD, List.getElem?_eq_getElem hk]
            rfl
          rw [this]
          exact F4
      · rintro σ H' ⟨x, y, rfl, F1⟩
        refine ⟨_, rfl, D, _, rfl, SqL.of F1.held, by rw [lst_len]; omega, fun p H4 s4 tp => q p H4 (F1.same.trans s4) ?_⟩
        unfold mulL
        rw [hN]
        exact tp
/-! ### shortest -/
theorem short_lst {a : List Int} : shortL a = (List.range a.length).map fun i => a.getD i 0 / (gAll a : Int) := by
  unfold shortL
  apply List.ext_getElem?
  intro i
  rw [List.getElem?_map,
        List.getElem?_map]
  by_cases hi : i < a.length
  · rw [List.getElem?_range hi, List.getElem?_eq_getElem hi, Option.map_some, Option.map_some, List.getD_eq_getElem?_getD, List.getElem?_eq_getElem hi]
    rfl
  · rw [List.getElem?_eq_none (by omega), List.getElem?_eq_none (by rw [List.length_range]; omega)]
    rfl
abbrev n_lshort : List Str := ["_law_some", "_law_by", "_law_many", "_law_each"]
theorem sc_lshort : FnScope n_lshort p_some (defScope sLShort) := ⟨rfl, rfl, rfl, by decide +kernel, rfl, by decide +kernel, by decide +kernel⟩
theorem ok_lshort {f : Addr} {fd : FuncData} (F : Fun K "_law_short" "_law_short" sLShort f fd) (T : Bl mg) (H_law_common : Has P w K mg base "_law_common" p_lcom 1 (spLCom K)) : FnOk P w K mg base CX0 2 f fd p_some (spRow1 K shortL) := by
  refine F.ok sc_lshort (fun vs H Q E h => ?_) (fun cdv A outer s H vs Q E hr h => ?_)
  · obtain ⟨_, _, rfl, _⟩ := h
    rfl
  · obtain ⟨va, a, rfl, ⟨ta, rfl, sa⟩, R, q⟩ := h
    refine ⟨_, (pss_cons (ps_asg (pe_tup (pa_cons (pe_callB (call_max2 rfl) (by rfl) T.max PyProof.Rows.boot_max (pa_cons pe_int (pa_cons (pe_has H_law_common (hr.mono (by decide)) (by rfl) (pa_cons (pv 0) pa_nil)) pa_nil))) (pa_cons (pe_callB (r := rLen K) len_seq (by rfl) T.len PySem.boot_len (pa_cons (pv 0) pa_nil)) pa_nil))) (pg_tup rfl (pgs_cons (pg_name (i := 1) sc_lshort.nd rfl (Or.inr rfl)) (pgs_cons (pg_name (i := 2) sc_lshort.nd rfl (Or.inl rfl)) pgs_nil))))
      (pss_cons (ps_while PassesOwn.never ((pw_and (pt_cmpR op_gt (pv 2) pe_int (nomark _)) (pw_and1 (pt_cmpR op_eq (pe_ix (r := rIxT K) ix_tup (pv 0) (pe_op op_sub (pv 2) pe_int) (fun _ _ => rfl)) pe_int (nomark _))))).pt (pss_one (ps_set (i := 2) sc_lshort.nd rfl (Or.inl rfl) (pe_op op_sub (pv 2) pe_int))))
      (pss_one (ps_ret (pe_callTy call_tuple_of (by rfl) T.tuple PyProof.Rows.boot_tuple (pa_cons (pe_lc (own := [("_law_each", 3)]) (g := gName 3) (tt := tYes) rfl sc_lshort.nd (pi_tup (pe_slice sl_tupA (pv 0) po_none (po_some (pv 2)))) (blkOk_by (N := n_lshort) (sc := defScope sLShort) (by decide +kernel)) (fun _ _ _ _ _ => pg_name (i := 3) sc_lshort.nd rfl (Or.inl rfl)) (fun _ _ _ _ _ => pts_nil) (fun _ _ _ _ _ => (pe_op op_fdivW (pv 3) (pv 1)))) pa_nil)))))), ?_⟩
    have hl := R.few
    have gb : gAll a < 2 ^ 9000 := gAll_big a 0 big0 R.b9
    refine ⟨_, rfl, ta, a, rfl, Or.inr sa, _, _, rfl, ?_⟩
    generalize hB : (if ((gAll a : Nat) : Int) > 1 then ((gAll a : Nat) : Int) else 1) = B
    refine ⟨_, rfl, ta, _, rfl, Or.inr sa, by show 2 ≤ sizeLine; decide, fun p0 hp0 => ?_⟩
    rw [List.length_map]
    have s1 := same_new (p := p0) (o := HO.tup [V.int B, .int (a.length : Nat)]) hp0
    refine ⟨p0, _, rfl, SqT.of upd_same, rfl, _, _, rfl, _, _, rfl, rfl, ?_⟩
    have sa1 := same_sqT s1 sa
    generalize upd H p0 (.tup [V.int B, .int (a.length : Nat)]) = H1 at s1 sa1 ⊢
    refine ⟨fun m σ H' => σ = [some (.ref ta), some (.int B), some (.int (a.length : Nat)), none] ∧ H' = H1, ⟨0, rfl, rfl⟩, ?_⟩
    rintro m σ H' ⟨rfl, rfl⟩
    refine ⟨_, rfl, _, _,
          rfl, rfl, _, rfl, ?_⟩
    refine ite2 (fun c
          => ?_) (fun c => ?_)
    · have hlen : 0 < a.length := by have := of_decide_eq_true c; omega
      have hne : a ≠ [] := List.length_pos_iff.mp hlen
      have hlast : (a.map V.int)[a.length - 1]? = some (V.int (a.getLast hne)) := by
        rw [List.getElem?_map, ← List.getLast?_eq_getElem?, List.getLast?_eq_some_getLast hne]
        rfl
      refine ⟨_, rfl, _, rfl, _, _, rfl, rfl, ta, _, _, V.int (a.getLast hne), rfl, rfl, sa1, ?_, rfl, _, rfl, ?_⟩
      · rw [show (((a.length : Nat) : Int) - 1) = ((a.length - 1 : Nat) : Int) by omega]
        exact atI_nat hlast
      · refine ite2 (fun d => absurd (V.int.inj (of_decide_eq_true d)) (lastOk_ne R.last hne)) (fun d => ?_)
        · dsimp only
          unfold tRet tCB tCons tNil
          dsimp only
          refine lcT (K := K) (a := ta) (xs := a.map V.int) (vs := [3]) (j := 3) (σ := [some (V.ref ta), some (V.int B), some (V.int (a.length : Nat)), none]) (fun i y => y = .int (a.getD i 0 / (gAll a : Int))) ?hx sa1 (by rw [List.length_map]; omega) (fun x => rfl) (fun i x H3 hi sm Q' q' => ?_) (fun D ys H2 hD s2 hy e1 e2 => ?_)
          case hx => exact fun R r => ⟨_, rfl, _, rfl, ((a.length : Nat) : Int), rfl, ta, _, rfl, sa1, fun _ => r, fun cw => absurd ⟨rfl, by rw [HT.sIx_nat, List.length_map]; omega⟩ cw⟩
          · obtain ⟨z, hz, rfl⟩ := map_at hi
            have hne : a ≠ [] := fun h => by rw [h] at hz; cases hz
            have g0 := R.g hne
            have eB : B = ((gAll a : Nat) : Int) := by rw [← hB]; split <;> omega
            rw [eB]
            refine ⟨_, rfl, _, rfl, _, _, rfl, rfl, wide_div (b := 9000) (by omega) (by simpa using gb) (by decide) (by decide), q' _ _ ?_ (Same.refl _)⟩
            rw [List.getD_eq_getElem?_getD, hz]
            rfl
          · have ey := vals_map (e1.trans (List.length_map ..)) e2
            refine ⟨D, ys, rfl, Or.inl ⟨SqL.of hy, fun l hl => q _ _ (s1.trans (s2.trans (same_new hl))) ⟨l, rfl, ?_⟩⟩⟩
            rw [short_lst, ← ey]
            exact SqT.of upd_same
    · refine iteF ?_
      dsimp only
      unfold tRet tCB tCons tNil
      dsimp only
      refine lcT (K := K) (a := ta) (xs := a.map V.int) (vs := [3]) (j := 3) (σ := [some (V.ref ta), some (V.int B), some (V.int (a.length : Nat)), none]) (fun i y => y = .int (a.getD i 0 / (gAll a : Int))) ?hx sa1 (by rw [List.length_map]; omega) (fun x => rfl) (fun i x H3 hi sm Q' q' => ?_) (fun D ys H2 hD s2 hy e1 e2 => ?_)
      case hx => exact fun R r => ⟨_, rfl, _, rfl, ((a.length : Nat) : Int), rfl, ta, _, rfl, sa1, fun _ => r, fun cw => absurd ⟨rfl, by rw [HT.sIx_nat, List.length_map]; omega⟩ cw⟩
      · obtain ⟨z, hz, rfl⟩ := map_at hi
        have hne : a ≠ [] := fun h => by rw [h] at hz; cases hz
        have g0 := R.g hne
        have eB : B = ((gAll a : Nat) : Int) := by rw [← hB]; split <;> omega
        rw [eB]
        refine ⟨_, rfl, _, rfl, _, _, rfl, rfl, wide_div (b := 9000) (by omega) (by simpa using gb) (by decide) (by decide), q' _ _ ?_ (Same.refl _)⟩
        rw [List.getD_eq_getElem?_getD, hz]
        rfl
      · have ey := vals_map (e1.trans (List.length_map ..)) e2
        refine ⟨D, ys, rfl, Or.inl ⟨SqL.of hy, fun l hl => q _ _ (s1.trans (s2.trans (same_new hl))) ⟨l, rfl, ?_⟩⟩⟩
        rw [short_lst, ← ey]
        exact SqT.of upd_same
end
end K6

namespace K6
open PySem L2 Ur
theorem menu {x : V} {l : List Int} {lo hi : Int} (h : x ∈ l.map V.int) (hb : ∀ i ∈ l, lo ≤ i ∧ i ≤ hi) : ∃ i, x = .int i ∧ lo ≤ i ∧ i ≤ hi := by
  obtain ⟨i, h1, rfl⟩ := List.mem_map.mp h
  exact ⟨i, rfl, hb i h1⟩
theorem ints_nat {ys : List V} {n : Nat} (h : ∀ (i : Nat) (y : V), ys[i]? = some y → ∃ z : Int, y = .int z ∧ z.natAbs ≤ n) : ∃ ns : List Int, ys = ns.map V.int ∧ ∀ z ∈ ns, z.natAbs ≤ n := by
  induction ys with
  | nil => exact ⟨[], rfl, fun _ h => nomatch h⟩
  | cons y r ih =>
    obtain ⟨ns, e, hb⟩ := ih fun i x hx => h (i + 1) x hx
    obtain ⟨z, rfl, hz⟩ := h 0 y rfl
    refine ⟨z :: ns, by rw [e]; rfl, fun m hm => ?_⟩
    rcases List.mem_cons.mp
          hm with rfl | hm
    · exact hz
    · exact hb m hm
section
variable {P : Program} {w : World} {K :
      PySem.W.Frag} {mg : Str → Option Value} {base : Heap}
abbrev n_lrow : List Str := ["_law_pot_here", "_law_most", "_law_size", "_law_turn"]
abbrev p_lrow : List Str := ["_law_pot_here", "_law_most"]
theorem sc_lrow : FnScope n_lrow p_lrow (defScope sLRow) := ⟨rfl, rfl, rfl, by decide +kernel, rfl, by decide +kernel, by decide +kernel⟩
def spLRow (K : PySem.W.Frag) : Sp := fun vs H Q _ => ∃ (u : Addr) (m : Int), vs = [.ref u, .int m] ∧ H u = some (PotO u) ∧ 0 ≤ m ∧ m ≤ 12 ∧ ∀ (p : V) (a : List Int) (H' : Hp), Same H H' → Tp K H' p a → RowOk a → (a.length : Int) ≤ m → (∀ z ∈ a, z.natAbs ≤ 2 ^ 43) → Q p H'
theorem ok_lrow {f : Addr} {fd : FuncData} (F : Fun K "_law_row" "_law_row" sLRow f fd) (T : Bl mg) (H_law_of : Has P w K mg base "_law_of" p_of 2 spOf) (H_law_from : Has P w K mg base "_law_from" p_from 2 spFrom) (H_law_draw : Has P w K mg base "_law_draw" pDraw 1 spDraw) (H_law_trim : Has P w K mg base "_law_trim" p_some 1 (spLTrim K)) : FnOk P w K mg base CX0 3 f fd p_lrow (spLRow K) := by
  refine F.ok sc_lrow (fun vs H Q E h => ?_) (fun cdv A outer s H vs Q E hr h => ?_)
  · obtain ⟨_, _, rfl, _⟩ := h
    rfl
  · obtain ⟨u, m, rfl, hu, m0, m1, q⟩ := h
    refine ⟨_, (pss_cons (ps_set (i := 2) sc_lrow.nd rfl (Or.inr rfl) (pe_has H_law_of (hr.mono (by decide)) (by rfl) (pa_cons (pv 0) (pa_cons (pe_lst (pa_cons pe_int (pa_cons pe_int (pa_cons pe_int (pa_cons pe_int (pa_cons pe_int (pa_cons (pe_op op_add (pe_op op_pow pe_int pe_int) pe_int) pa_nil))))))) pa_nil))))
      (pss_one (ps_ret (pe_has H_law_trim (hr.mono (by decide)) (by rfl) (pa_cons (pe_lc (own := [("_law_turn", 3)]) (g := gName 3) (tt := tYes) rfl sc_lrow.nd (pi_range1 (by rfl) T.range (pa_cons (pe_has H_law_draw (hr.mono (by decide)) (by rfl) (pa_cons (pv 0) (pa_cons (pe_op op_add (pv 1) pe_int) pa_nil))) pa_nil)) (blkOk_by (N := n_lrow) (sc := defScope sLRow) (by decide +kernel)) (fun _ _ _ _ _ => pg_name (i := 3) sc_lrow.nd rfl (Or.inl rfl)) (fun _ _ _ _ _ => pts_nil) (fun _ _ _ _ _ => (pe_op op_add (pe_op op_mul (pv 2) (pe_has H_law_from (hr.mono (by decide)) (by rfl) (pa_cons (pv 0) (pa_cons (pe_un un_neg pe_int) (pa_cons pe_int pa_nil))))) (pe_has H_law_from (hr.mono (by decide)) (by rfl) (pa_cons (pv 0) (pa_cons (pe_un un_neg pe_int) (pa_cons pe_int pa_nil))))))) pa_nil))))), ?_⟩
    refine ⟨_, rfl, _, _, rfl, rfl, ⟨by decide, by decide, by decide⟩, _, _, rfl, rfl, by show 6 ≤ sizeLine; decide, fun l hl => ⟨u, l, _, rfl, same_new hl _ _ hu, upd_same, by decide, by decide, fun x H1 hx s1 => ?_⟩⟩
    have s01 := (same_new hl).trans s1
    obtain ⟨z, rfl, z0, z1⟩ := menu (l := [1, 1, 1, 1, 1000003, 10 ^ 12 + 39]) (lo := 1) (hi := 1000000000039) hx (by decide)
    unfold tRet tCall tCons tNil gName
    dsimp only
    refine lcRn (fun n => 0 ≤ n ∧ n ≤ m) (fun n i y => ∃ z : Int, y = .int z ∧ z.natAbs ≤ 2 ^ 43) (fun R r => ?_) (fun n hn => ⟨hn.1, by omega⟩) (fun x => rfl) (fun n i H3 hn hi sm Q' q' => ?_) (fun n D ys H2 hn hD s2 hy e1 e2 => ?_)
    · exact ⟨_, rfl, _, rfl, _, _, rfl, rfl, u, _, rfl, s01 _ _ hu, by omega, by omega, fun r1 H3 h0 h1 s3 => r r1 H3 ⟨h0, by omega⟩ s3⟩
    · have hu3 := sm _ _ (s01 _ _ hu)
      refine ⟨_, rfl, _, rfl, _, rfl, u, _, _, rfl, hu3, by decide, by decide, by decide, fun r H4 r0 r1 s4 => ⟨_, _, rfl, rfl, Or.inl (by omega), _, rfl, _, rfl, u, _, _, rfl, s4 _ _ hu3, by decide, by decide, by decide, fun r' H5 r0' r1' s5 => ⟨_, _, rfl, rfl, q' _ _ ⟨_, rfl, ?_⟩ (s4.trans s5)⟩⟩⟩
      have : (z * r).natAbs ≤ 1000000000039 * 4 := by
        rw [Int.natAbs_mul]
        exact Nat.mul_le_mul (by omega) (by omega)
      have h2 : (1000000000039 * 4 + 1 : Nat) ≤ 2 ^ 43 := by decide
      omega
    · obtain ⟨ns, rfl, hb⟩ := ints_nat e2
      rw [List.length_map] at e1
      refine ⟨D, ns, rfl, SqL.of hy, by omega, fun p H4 s4 tp => ?_⟩
      have hl := trim_len ns
      have b2 : ∀ z ∈ trimL ns, z.natAbs ≤ 2 ^ 43 := fun z hz => hb z (trim_mem hz)
      exact q p (trimL ns) H4 ((s01.trans s2).trans s4) tp (trim_ok (by omega) fun n hn => Nat.lt_of_le_of_lt (hb n hn) (by decide)) (by omega) b2
/-! ### the pot -/
abbrev n_pot : List Str := ["_law_script", "_law_turn", "_law_own", "_law_stir", "_law_cell"]
abbrev p_pot : List Str := ["_law_script", "_law_turn"]
theorem sc_pot : FnScope n_pot p_pot (defScope sPot) := ⟨rfl, rfl, rfl, by decide +kernel, rfl, by decide +kernel, by decide +kernel⟩
def spPot (K : PySem.W.Frag) : Sp := fun vs H Q _ => ∃ (a : Addr) (ns : List Int) (t : Int), vs = [.ref a, .int t] ∧ SqL K H a (ns.map V.int) ∧ 0 ≤ t ∧ t ≤ 10 ∧
  ∀ (p : Addr) (x y z : Int) (H' : Hp), H p = none → Same H H' → Bp x y z → H' p = some (.lst (nums x y z)) → Q (.ref p) H'
theorem ok_pot {f : Addr} {fd : FuncData} (F : Fun K "_law_pot" "_law_pot" sPot f fd) (T : Bl mg) : FnOk P w K mg base CX0 1 f fd p_pot (spPot K) := by
  refine F.ok sc_pot (fun vs H Q E h => ?_) (fun cdv A outer s H vs Q E hr h => ?_)
  · obtain ⟨a, ns, lap, rfl, _⟩ := h
    rfl
  · obtain ⟨a, ns, t, rfl, hS, l0, l1, k⟩ := h
    refine ⟨_, (pss_mid (ps_set (i := 2) sc_pot.nd rfl (Or.inl rfl) (pe_ifExp (pt_cmpR op_lt (pv 1) (pe_callB (r := rLen K) len_seq (by rfl) T.len PySem.boot_len (pa_cons (pv 0) pa_nil)) (nomark _)) (pe_callTy call_int1 (by rfl) T.int PyProof.Rows.boot_int (pa_cons (pe_ix (r := rIxL K) ix_list (pv 0) (pv 1) (fun _ _ => rfl)) pa_nil)) (pe_op op_add (pe_op op_add (pe_op op_mod (pe_callTy call_int1 (by rfl) T.int PyProof.Rows.boot_int (pa_cons (pe_callB (cr_sum rfl) (by rfl) T.sum PyProof.Rows.boot_sum (pa_cons (pe_slice sl_list (pv 0) po_none (po_some pe_int)) pa_nil)) pa_nil)) pe_int) (pe_op op_mul pe_int (pv 1))) pe_int)))
      (pss_cons (ps_set (i := 3) sc_pot.nd rfl (Or.inl rfl) (pe_op op_add pe_int (pe_op op_mul pe_int (pv 1))))
      (pss_cons (ps_for PassesOwn.never rfl (pi_list (pe_op op_cat (pe_slice sl_list (pv 0) po_none (po_some pe_int)) (pe_lst (pa_cons (pv 2) pa_nil)))) (pg_name (i := 4) sc_pot.nd rfl (Or.inl rfl)) (pss_one (ps_set (i := 3) sc_pot.nd rfl (Or.inl rfl) (pe_op op_mod (pe_callTy call_int1 (by rfl) T.int PyProof.Rows.boot_int (pa_cons (pe_op op_add (pe_op op_add (pe_op op_mul (pv 3) pe_int) (pe_op op_mod (pe_callTy call_int1 (by rfl) T.int PyProof.Rows.boot_int (pa_cons (pv 4) pa_nil)) pe_int)) pe_int) pa_nil)) pe_int))))
      (pss_one (ps_ret (pe_lst (pa_cons (pe_ifExp ((pw_or (pt_cmpR op_lt (pv 2) pe_int (nomark _)) (pw_or1 (pt_cmpR op_ge (pv 2) (pe_op op_pow pe_int pe_int) (nomark _))))).pt (pe_callB call_abs (by rfl) T.abs PyProof.Rows.boot_abs (pa_cons (pv 2) pa_nil)) pe_int) (pa_cons (pv 3) (pa_cons pe_int pa_nil))))))))), ?_⟩
    refine ⟨fun σ H' => ∃ own : Int, σ = [some (.ref a), some (.int t), some (.int own), none, none] ∧ Same H H', ?_, ?_⟩
    · refine ⟨_, rfl, _, rfl, a, _, rfl, Or.inl hS, _, _, rfl, rfl, _, rfl, ?_⟩
      obtain ⟨j, rfl⟩ := Int.eq_ofNat_of_zero_le l0
      refine ite2 (fun c
            => ?_) (fun c => ?_)
      · have hj : j < ns.length := by
          have := of_decide_eq_true c
          rw [List.length_map] at this
          omega
        exact ⟨_, rfl, _, rfl, a, _, _, V.int ns[j], rfl, rfl, hS, atI_nat (by simp [hj]), Or.inl ⟨_, rfl, _, rfl, Same.refl _⟩⟩
      · refine ⟨_, rfl, 4, rfl, a, _, rfl, hS, fun p hp => ?_⟩
        rw [show ((4 : Int)) = ((4 : Nat) : Int) from rfl, cut_to]
        exact ⟨p, _, rfl, SqL.of upd_same, Or.inl ⟨_, rfl, _, _, rfl, rfl, (by show (0 : Int) < 999979; decide), _, rfl, _, _, rfl, rfl, Or.inl ⟨by decide, by decide⟩, _, _, rfl, rfl, _, _, rfl, rfl, _, rfl, same_new hp⟩⟩
    · rintro σ H0 ⟨own, rfl, s0⟩
      refine ⟨_, rfl, _, _, rfl, rfl, Or.inl ⟨by decide, by decide⟩, _, _, rfl, rfl, ?_⟩
      have hS0 := s0.seq hS
      refine ⟨_, rfl, 9, rfl, a, _, rfl, hS0, fun p hp => ?_⟩
      rw [show ((9 : Int)) = ((9 : Nat) : Int) from rfl, cut_to]
      have sp := same_new (p := p) (o := HO.lst ((ns.take 9).map V.int)) hp
      refine ⟨_, rfl, by show 1 ≤ sizeLine; decide, fun l hl => ?_⟩
      have sl := same_new (p := l) (o := HO.lst [V.int own]) hl
      refine ⟨p, l, (ns.take 9).map V.int, [V.int own], rfl, rfl, sl _ _ upd_same, upd_same, ?_, fun p2 hp2 => ?_⟩
      · rw [List.length_map,
            List.length_take]
        exact Nat.le_trans (by show min 9 ns.length + 1 ≤ 10; omega) (by decide)
      have s2 := same_new (p := p2) (o := HO.lst ((ns.take 9).map V.int ++ [V.int own])) hp2
      have s03 := s0.trans (sp.trans (sl.trans s2))
      have a2 : (upd (upd (upd H0 p (.lst ((ns.take 9).map V.int))) l (.lst [V.int own])) p2 (.lst ((ns.take 9).map V.int ++ [V.int own]))) p2 = some (.lst ((ns.take 9 ++ [own]).map V.int)) := by
        rw [upd_same, List.map_append]
        rfl
      generalize upd (upd (upd H0 p (.lst ((ns.take 9).map V.int))) l (.lst [V.int own])) p2 (.lst ((ns.take 9).map V.int ++ [V.int own])) = H1 at s03 a2 ⊢
      refine ⟨p2, rfl, ⟨_, SqL.of a2⟩, for_list (K := K) (a := p2) (xs := (ns.take 9 ++ [own]).map V.int) (fun i σ H' => ∃ (sd : Int) (v : Option V), σ = [some (.ref a), some (.int t), some (.int own), some (.int sd), v] ∧ 0 ≤ sd ∧ sd < 2147483587 ∧ H' = H1)
        ⟨31013 + 4241 * t, none, rfl, by omega, by omega, rfl⟩ (fun i σ H' _ h => by obtain ⟨_, _, _, _, _, e⟩ := h; exact e ▸ SqL.of a2) ?_ ?_⟩
      · rintro i y σ H' hi ⟨sd, v, rfl, st0, st1, rfl⟩
        obtain ⟨z, _, rfl⟩ := map_at hi
        refine ⟨_, rfl, _, _, rfl, rfl, Or.inl ⟨by omega, by omega⟩, _, rfl, Or.inl ⟨_, rfl, _, _, rfl, rfl, (by show (0 : Int) < 2147483587; decide), _, _, rfl, rfl, _, _, rfl, rfl, Or.inl ⟨_, rfl, _, _, rfl, rfl, (by show (0 : Int) < 2147483587; decide), ?_⟩⟩⟩
        exact ⟨_, _, rfl, Int.emod_nonneg _ (by decide), Int.emod_lt_of_pos _ (by decide), rfl⟩
      · rintro σ H' ⟨sd, v, rfl, st0, st1, rfl⟩
        have s1 := s03
        have B0' : 0 ≤ (if own < 0 then -own else own) := by split <;> omega
        refine ⟨_, rfl, _, _,
              rfl, rfl, _, rfl, ?_⟩
        refine ite2 (fun c
              => ?_) (fun c => ?_)
        · exact ⟨_, rfl, _, rfl, _, rfl, by show 3 ≤ sizeLine; decide, fun r hr2 => k r _ sd 0 _ (s1.free hr2) (s1.trans (same_new hr2)) ⟨B0', st0, by omega, by decide⟩ upd_same⟩
        · refine ⟨_, rfl, _, _, rfl, rfl, ⟨by decide, by decide, by decide⟩, _, _, rfl, rfl, _, rfl, ?_⟩
          refine ite2 (fun c
                => ?_) (fun c => ?_)
          · exact ⟨_, rfl, _, rfl, _, rfl, by show 3 ≤ sizeLine; decide, fun r hr2 => k r _ sd 0 _ (s1.free hr2) (s1.trans (same_new hr2)) ⟨B0', st0, by omega, by decide⟩ upd_same⟩
          · exact ⟨_, rfl, by show 3 ≤ sizeLine; decide, fun r hr2 => k r 0 sd 0 _ (s1.free hr2) (s1.trans (same_new hr2)) ⟨by decide, st0, by omega, by decide⟩ upd_same⟩
end
end K6

namespace K6
open PySem L2 Ur
/-! ### division, plain -/
def conv : List Int → (Nat → Int) → Nat → Int
  | [], _, _ => 0
  | a :: o, T, i => a * T i + (match i with | 0 => 0 | j + 1 => conv o T j)
theorem conv_lin (m s : Int) (p : Nat) (T : Nat → Int) : ∀ (o : List Int) (i : Nat), conv o (fun i => m * T i - s * (if i = p then 1 else 0)) i = m * conv o T i - s * (if p ≤ i then o.getD (i - p) 0 else 0)
  | [], i => by simp [conv]
  | a :: o, 0 => by
    show a * (m * T 0 - s * (if 0 = p then 1 else 0)) + 0 = m * (a * T 0 + 0) - s * _
    by_cases h : p = 0
    · subst h
      rw [if_pos rfl, if_pos (Nat.le_refl _)]
      show _ = _ - s * a
      grind
    · rw [if_neg (by omega), if_neg (by omega)]
      grind
  | a :: o, i + 1 => by
    have ih := conv_lin m s p T o i
    show a * (m * T (i + 1) - s * (if i + 1 = p then 1 else 0)) + conv o _ i = m * (a * T (i + 1) + conv o T i) - s * _
    rw [ih]
    by_cases h1 : p ≤ i
    · rw [if_neg (by omega), if_pos h1, if_pos (by omega), show i + 1 - p = (i - p) + 1 by omega, List.getD_cons_succ]
      grind
    · by_cases h2 : i + 1 = p
      · rw [if_pos h2, if_neg h1, if_pos (by omega), show i + 1 - p = 0 by omega, List.getD_cons_zero]
        grind
      · rw [if_neg h2, if_neg h1, if_neg (by omega)]
        grind
theorem conv_scale (m : Int) (T : Nat → Int) (o : List Int) (i : Nat) : conv o (fun i => m * T i) i = m * conv o T i := by
  have h := conv_lin m 0 0 T o i
  simp only [Int.zero_mul, Int.sub_zero] at h
  exact h
theorem conv_none {T : Nat → Int} (h : ∀ i, T i = 0) : ∀ (o : List Int) (i : Nat), conv o T i = 0
  | [], _ => rfl
  | a :: o, 0 => by
    show a * T 0 + 0 = 0
    rw [h]
    simp
  | a :: o, i + 1 => by
    show a * T (i + 1) + conv o T i = 0
    rw [h, conv_none h o i]
    simp
theorem conv_one (s : Int) : ∀ (o : List Int) (i : Nat), conv o (fun i => if i = 0 then s else 0) i = o.getD i 0 * s
  | [], i => by
    show 0 = ([] : List Int).getD i 0 * s
    simp
  | a :: o, 0 => by
    show a * s + 0 = a * s
    simp
  | a :: o, i + 1 => by
    show a * 0 + conv o _ i = (a :: o).getD (i + 1) 0 * s
    rw [conv_one s o i, List.getD_cons_succ]
    simp
theorem conv_top {T : Nat → Int} {t : Nat} (h : ∀ i, t < i → T i = 0) : ∀ (o : List Int), o ≠ [] → conv o T (o.length - 1 + t) = o.getD (o.length - 1) 0 * T t
  | [], h0 => absurd rfl h0
  | [a], _ => by
    show conv [a] T (0 + t) = a * T t
    rw [Nat.zero_add]
    cases t with
    | zero => show a * T 0 + 0 = a * T 0; simp
    | succ t => show a * T (t + 1) + 0 = a * T (t + 1); simp
  | a :: b :: r, _ => by
    have ih := conv_top h (b :: r) (by simp)
    have e : (a :: b :: r).length - 1 + t = ((b :: r).length - 1 + t) + 1 := by
      simp only [List.length_cons]
      omega
    rw [e]
    show a * T _ + conv (b :: r) T ((b :: r).length - 1 + t) = (a :: b :: r).getD ((b :: r).length - 1 + 1) 0 * T t
    rw [ih, h _ (by omega), List.getD_cons_succ]
    simp
theorem conv_zero {T : Nat → Int} {o : List Int} (h0 : o ≠ []) (hl : o.getD (o.length - 1) 0 ≠ 0) (hz : ∀ i, o.length - 1 ≤ i → conv o T i = 0) : ∀ N, (∀ i, N ≤ i → T i = 0) → ∀ i, T i = 0
  | 0, h, i => h i (Nat.zero_le _)
  | N + 1, h, i => by
    refine conv_zero h0 hl hz N (fun j hj => ?_) i
    by_cases e : j = N
    · subst e
      have h1 := conv_top (t := j) (fun i hi => h i hi) o h0
      rw [hz _ (Nat.le_add_right _ _)] at h1
      rcases Int.mul_eq_zero.mp h1.symm with h2 | h2
      · exact absurd h2 hl
      · exact h2
    · exact h j (by omega)
theorem getD_none {l : List Int} {i : Nat} (h : l.length ≤ i) : l.getD i 0 = 0 := by
  rw [List.getD_eq_getElem?_getD, List.getElem?_eq_none h]
  rfl
theorem trim_getD : ∀ (l : List Int) (i : Nat), (trimL l).getD i 0 = l.getD i 0
  | [], _ => rfl
  | x :: r, i => by
    unfold trimL
    split
    · rename_i c
      obtain ⟨c1, rfl⟩ := c
      cases i with
      | zero => rfl
      | succ i =>
        rw [List.getD_cons_succ, ← trim_getD r i, c1]
        rfl
    · cases i with
      | zero => rfl
      | succ i => rw [List.getD_cons_succ, List.getD_cons_succ, trim_getD r i]
theorem lst_getD {N : Nat} {f : Nat → Int} (i : Nat) : (lst N f).getD i 0 = if i < N then f i else 0 := by
  by_cases h : i < N
  · rw [if_pos h, List.getD_eq_getElem?_getD, lst_at h]
    rfl
  · rw [if_neg h, getD_none (by rw [lst_len]; omega)]
theorem add_getD : ∀ (a b : List Int) (i : Nat), (addL a b).getD i 0 = a.getD i 0 + b.getD i 0
  | [], b, i => by simp [addL]
  | x :: a, [], i => by
    rw [addL_nil]
    simp
  | x :: a, y :: b, 0 => rfl
  | x :: a, y :: b, i + 1 => by
    show (addL a b).getD i 0 = a.getD i 0 + b.getD i 0
    exact add_getD a b i
theorem cv_cons (x : Int) (a b : List Int) : ∀ k i, cv (x :: a) b (k + 1) i = x * b.getD i 0 + (match i with | 0 => 0 | j + 1 => cv a b k j)
  | 0, i => by
    show (0 : Int) + (if 0 ≤ i ∧ i - 0 < b.length then x * b.getD (i - 0) 0 else 0) = _
    have e : (match i with | 0 => (0 : Int) | j + 1 => cv a b 0 j) = 0 := by
      cases i <;> rfl
    rw [e, Nat.sub_zero]
    by_cases h : i < b.length
    · rw [if_pos ⟨Nat.zero_le _, h⟩]
      simp
    · rw [if_neg (fun c => h c.2), getD_none (by omega)]
      simp
  | k + 1, i => by
    have ih := cv_cons x a b k i
    show cv (x :: a) b (k + 1) i + (if k + 1 ≤ i ∧ i - (k + 1) < b.length then (x :: a).getD (k + 1) 0 * b.getD (i - (k + 1)) 0 else 0) = _
    rw [ih, List.getD_cons_succ]
    cases i with
    | zero =>
      rw [if_neg (by omega)]
      simp
    | succ j =>
      show x * b.getD (j + 1) 0 + cv a b k j + _ = x * b.getD (j + 1) 0 + (cv a b k j + if k ≤ j ∧ j - k < b.length then a.getD k 0 * b.getD (j - k) 0 else 0)
      have e : j + 1 - (k + 1) = j - k := by omega
      rw [e]
      by_cases h : k ≤ j ∧ j - k < b.length
      · rw [if_pos h, if_pos ⟨by omega, h.2⟩, Int.add_assoc]
      · rw [if_neg h, if_neg (fun c => h ⟨by omega, c.2⟩), Int.add_assoc]
theorem cv_conv (b : List Int) : ∀ (a : List Int) (i : Nat), cv a b a.length i = conv a (fun j => b.getD j 0) i
  | [], _ => rfl
  | x :: a, i => by
    show cv (x :: a) b (a.length + 1) i = _
    rw [cv_cons]
    cases i with
    | zero => rfl
    | succ j => show _ + cv a b a.length j = _ + conv a _ j; rw [cv_conv b a j]
theorem mul_getD (a b : List Int) (i : Nat) : (mulL a b).getD i 0 = conv a (fun j => b.getD j 0) i := by
  unfold mulL
  rw [trim_getD, lst_getD, ← cv_conv]
  by_cases h : i < a.length + b.length
  · rw [if_pos h]
  · rw [if_neg h, cv_zero (by omega)]
theorem mul_one_getD (a : List Int) (s : Int) (i : Nat) : (mulL a [s]).getD i 0 = a.getD i 0 * s := by
  rw [mul_getD, ← conv_one]
  congr 1
  funext j
  cases j <;> rfl
theorem last_getD {l : List Int} (h0 : l ≠ []) : l.getD (l.length - 1) 0 = l.getLast h0 := by
  rw [List.getD_eq_getElem?_getD, ← List.getLast?_eq_getElem?, List.getLast?_eq_some_getLast h0]
  rfl
theorem last_ne {l : List Int} (h : l.getLast? ≠ some 0) (h0 : l ≠ []) : l.getD (l.length - 1) 0 ≠ 0 := by
  rw [last_getD h0]
  intro e
  exact h (by rw [List.getLast?_eq_some_getLast h0, e])
theorem len_le_of {a b : List Int} (ha : a.getLast? ≠ some 0) (h : ∀ i, a.getD i 0 ≠ 0 → b.getD i 0 ≠ 0) : a.length ≤ b.length := by
  by_cases h0 : a = []
  · rw [h0]
    exact Nat.zero_le _
  · have h1 := h _ (last_ne ha h0)
    have hp : 0 < a.length := List.length_pos_iff.mpr h0
    by_cases h2 : a.length ≤ b.length
    · exact h2
    · exact absurd (getD_none (by omega)) h1
theorem rows_ext {a b : List Int} (ha : a.getLast? ≠ some 0) (hb : b.getLast? ≠ some 0) (h : ∀ i, a.getD i 0 = b.getD i 0) : a = b := by
  have h1 := len_le_of (b := b) ha fun i hi => by rw [← h i]; exact hi
  have h2 := len_le_of (b := a) hb fun i hi => by rw [h i]; exact hi
  apply List.ext_getElem?
  intro i
  have e := h i
  rw [List.getD_eq_getElem?_getD, List.getD_eq_getElem?_getD] at e
  by_cases hi : i < a.length
  · rw [List.getElem?_eq_getElem hi, List.getElem?_eq_getElem (by omega)] at e ⊢
    exact congrArg some e
  · rw [List.getElem?_eq_none (by omega), List.getElem?_eq_none (by omega)]
/-! ### shortest rows of multiples -/
theorem gAll_scale (k : Int) : ∀ (l : List Int) (g : Nat), (l.map fun n => k * n).foldl (fun g n => Nat.gcd g n.natAbs) (k.natAbs * g) = k.natAbs * l.foldl (fun g n => Nat.gcd g n.natAbs) g
  | [], _ => rfl
  | n :: r, g => by
    show (r.map fun n => k * n).foldl _ (Nat.gcd (k.natAbs * g) (k * n).natAbs) = _
    rw [Int.natAbs_mul, Nat.gcd_mul_left]
    exact gAll_scale k r _
theorem short_scale {k : Int} (hk : 0 < k) (l : List Int) : shortL (l.map fun n => k * n) = shortL l := by
  have e : gAll (l.map fun n => k * n) = k.natAbs * gAll l := by
    have := gAll_scale k l 0
    rw [Nat.mul_zero] at this
    exact this
  unfold shortL
  rw [e, List.map_map]
  apply List.map_congr_left
  intro n hn
  show (k * n) / ((k.natAbs * gAll l : Nat) : Int) = n / (gAll l : Int)
  rw [Int.natCast_mul, Int.natAbs_of_nonneg (Int.le_of_lt hk), Int.mul_ediv_mul_of_pos _ _ hk]
theorem scale_last {k : Int} (hk : 0 < k) {l : List Int} (h : l.getLast? ≠ some 0) : (l.map fun n => k * n).getLast? ≠ some 0 := by
  rw [List.getLast?_map]
  intro e
  cases hl : l.getLast? with
  | none => rw [hl] at e; cases e
  | some x =>
    rw [hl] at e
    have e1 : k * x = 0 := Option.some.inj e
    rcases Int.mul_eq_zero.mp e1 with h2 | h2
    · omega
    · exact h (by rw [hl, h2])
theorem scale_getD (k : Int) (l : List Int) (i : Nat) : (l.map fun n => k * n).getD i 0 = k * l.getD i 0 := by
  rw [List.getD_eq_getElem?_getD,
        List.getD_eq_getElem?_getD, List.getElem?_map]
  cases l[i]? <;> simp
/-- what stays while a row is divided: it is a multiple of the one and some of the other -/
structure Rem (o S rest : List Int) : Prop where
  tr : rest.getLast? ≠ some 0
  is : ∃ (k : Int) (T : Nat → Int) (N : Nat), 0 < k ∧ (∀ i, N ≤ i → T i = 0) ∧ ∀ i, rest.getD i 0 = k * S.getD i 0 + conv o T i
theorem Rem.done {o S rest : List Int} (h : Rem o S rest) (ho : o ≠ []) (hol : o.getLast? ≠ some 0) (hS : S.getLast? ≠ some 0) (hSl : S.length < o.length) (hr : rest.length < o.length) : shortL rest = shortL S := by
  obtain ⟨k, T, N, hk, hT, e⟩ := h.is
  have z := conv_zero ho (last_ne hol ho) (fun i hi => by
    have := e i
    rw [getD_none (l := rest) (by omega), getD_none (l := S) (by omega), Int.mul_zero, Int.zero_add] at this
    exact this.symm) N hT
  have e2 : rest = S.map fun n => k * n := rows_ext h.tr (scale_last hk hS) fun i => by
    rw [e i, conv_none z, Int.add_zero, scale_getD]
  rw [e2, short_scale hk]
/-- one step of the division -/
def stM (rl ol : Int) : Int := ol.natAbs / (Nat.gcd rl.natAbs ol.natAbs : Nat)
def stS (rl ol : Int) : Int := rl / (Nat.gcd rl.natAbs ol.natAbs : Nat) * ol.sign
theorem st_eq {rl ol : Int} (ho : ol ≠ 0) : 0 < stM rl ol ∧ rl * stM rl ol - stS rl ol * ol = 0 := by
  have hg : 0 < Nat.gcd rl.natAbs ol.natAbs := Nat.gcd_pos_of_pos_right _ (by omega)
  obtain ⟨p, hp⟩ : ∃ p : Int, rl = (Nat.gcd rl.natAbs ol.natAbs : Nat) * p := Int.ofNat_dvd_left.mpr (Nat.gcd_dvd_left _ _)
  obtain ⟨r, hr⟩ : ∃ r : Nat, ol.natAbs = Nat.gcd rl.natAbs ol.natAbs * r := Nat.gcd_dvd_right _ _
  unfold stM stS
  generalize hG : Nat.gcd rl.natAbs ol.natAbs = g at *
  have hg' : (g : Int) ≠ 0 := by omega
  have e1 : ((ol.natAbs : Nat) : Int) / (g : Int) = r := by
    rw [hr, Int.natCast_mul]
    exact Int.mul_ediv_cancel_left _ hg'
  have e2 : rl / (g : Int) = p := by
    rw [hp]
    exact Int.mul_ediv_cancel_left _ hg'
  rw [e1, e2]
  have hrp : 0 < r := by
    rcases Nat.eq_zero_or_pos r with h | h
    · rw [h, Nat.mul_zero] at hr
      omega
    · exact h
  refine ⟨by omega, ?_⟩
  have e3 : p * ol.sign * ol = p * (ol.natAbs : Int) := by
    rw [Int.mul_assoc, Int.mul_comm ol.sign, Int.mul_sign_self]
  rw [e3, hr, hp, Int.natCast_mul]
  grind
def stepL (o rest : List Int) : List Int :=
  trimL (lst rest.length (rowAdd (fun i => rest.getD i 0 * stM (rest.getD (rest.length - 1) 0) (o.getD (o.length - 1) 0)) (rest.length - o.length) (-stS (rest.getD (rest.length - 1) 0) (o.getD (o.length - 1) 0)) o o.length))
theorem rowAdd_at {g : Nat → Int} {k : Nat} {x : Int} {b : List Int} (i : Nat) : rowAdd g k x b b.length i = g i + x * (if k ≤ i then b.getD (i - k) 0 else 0) := by
  show g i + (if k ≤ i ∧ i - k < b.length then x * b.getD (i - k) 0 else 0) = _
  by_cases h : k ≤ i
  · by_cases h2 : i - k < b.length
    · rw [if_pos ⟨h, h2⟩, if_pos h]
    · rw [if_neg (fun c => h2 c.2), if_pos h, getD_none (by omega), Int.mul_zero]
  · rw [if_neg (fun c => h c.1), if_neg h, Int.mul_zero]
theorem step_getD {o rest : List Int} (h0 : 0 < o.length) (hl : o.length ≤ rest.length) (i : Nat) : (stepL o rest).getD i 0 = rest.getD i 0 * stM (rest.getD (rest.length - 1) 0) (o.getD (o.length - 1) 0) - stS (rest.getD (rest.length - 1) 0) (o.getD (o.length - 1) 0) * (if rest.length - o.length ≤ i then o.getD (i - (rest.length - o.length)) 0 else 0) := by
  unfold stepL
  rw [trim_getD, lst_getD, rowAdd_at]
  generalize stM (rest.getD (rest.length - 1) 0) (o.getD (o.length - 1) 0) = m
  generalize stS (rest.getD (rest.length - 1) 0) (o.getD (o.length - 1) 0) = s
  by_cases h : i < rest.length
  · rw [if_pos h]
    grind
  · rw [if_neg h, getD_none (l := rest) (by omega), if_pos (by omega), getD_none (l := o) (by omega)]
    grind
theorem step_rem {o S rest : List Int} (h : Rem o S rest) (ho : o ≠ []) (hol : o.getLast? ≠ some 0) (hl : o.length ≤ rest.length) : Rem o S (stepL o rest) := by
  obtain ⟨k, T, N, hk, hT, e⟩ := h.is
  have h0 : 0 < o.length := List.length_pos_iff.mpr ho
  obtain ⟨m0, _⟩ := st_eq (rl := rest.getD (rest.length - 1) 0) (last_ne hol ho)
  refine ⟨trim_last _, ?_⟩
  have sg := step_getD (o := o) (rest := rest) h0 hl
  generalize stM (rest.getD (rest.length - 1) 0) (o.getD (o.length - 1) 0) = m at m0 sg
  generalize stS (rest.getD (rest.length - 1) 0) (o.getD (o.length - 1) 0) = s at sg
  refine ⟨m * k, fun i => m * T i - s * (if i = rest.length - o.length then 1 else 0), max N (rest.length + 1), Int.mul_pos m0 hk, fun i hi => ?_, fun i => ?_⟩
  · show m * T i - s * _ = 0
    rw [hT i (by omega), if_neg (by omega)]
    simp
  · rw [sg, conv_lin, e i]
    grind
theorem step_less {o rest : List Int} (ho : o ≠ []) (hol : o.getLast? ≠ some 0) (hl : o.length ≤ rest.length) : (stepL o rest).length < rest.length := by
  have h0 : 0 < o.length := List.length_pos_iff.mpr ho
  have e := step_getD (o := o) (rest := rest) h0 hl (rest.length - 1)
  rw [if_pos (by omega), show rest.length - 1 - (rest.length - o.length) = o.length - 1 by omega, (st_eq (last_ne hol ho)).2] at e
  have hle : (stepL o rest).length ≤ rest.length := by
    unfold stepL
    refine Nat.le_trans (trim_len _) ?_
    rw [lst_len]
    exact Nat.le_refl _
  rcases Nat.lt_or_ge (stepL o rest).length rest.length with h | h
  · exact h
  · exfalso
    have el : (stepL o rest).length = rest.length := Nat.le_antisymm hle h
    have hne : stepL o rest ≠ [] := fun z => by
      rw [z] at el
      have := List.length_nil (α := Int)
      omega
    have := last_ne (l := stepL o rest) (trim_last _) hne
    rw [el] at this
    exact this e
/-! ### how great the numbers get -/
theorem st_le {rl ol : Int} (ho : ol ≠ 0) (h8 : ol.natAbs ≤ 8) : (stM rl ol).natAbs ≤ 8 ∧ (stS rl ol).natAbs ≤ rl.natAbs := by
  have hg : 0 < Nat.gcd rl.natAbs ol.natAbs := Nat.gcd_pos_of_pos_right _ (by omega)
  unfold stM stS
  constructor
  · rw [← Int.natCast_ediv, Int.natAbs_natCast]
    exact Nat.le_trans (Nat.div_le_self _ _) h8
  · obtain ⟨p, hp⟩ : ∃ p : Int, rl = (Nat.gcd rl.natAbs ol.natAbs : Nat) * p := Int.ofNat_dvd_left.mpr (Nat.gcd_dvd_left _ _)
    generalize hG : Nat.gcd rl.natAbs ol.natAbs = g at *
    have e2 : rl / (g : Int) = p := by
      rw [hp]
      exact Int.mul_ediv_cancel_left _ (by omega)
    rw [e2, Int.natAbs_mul, Int.natAbs_sign_of_ne_zero ho, Nat.mul_one, hp, Int.natAbs_mul, Int.natAbs_natCast]
    exact Nat.le_mul_of_pos_left _ hg
theorem getD_le' {a : List Int} {B : Nat} (h : ∀ z ∈ a, z.natAbs ≤ B) (i : Nat) : (a.getD i 0).natAbs ≤ B := by
  rw [ List.getD_eq_getElem?_getD ]
  cases e : a[i]? with
  | none => exact Nat.zero_le _
  | some x => exact h x (List.mem_of_getElem? e)
theorem mem_getD {a : List Int} {z : Int} (h : z ∈ a) : ∃ i, z = a.getD i 0 := by
  obtain ⟨i, hi, e⟩ := List.getElem_of_mem h
  refine ⟨i, ?_⟩
  rw [List.getD_eq_getElem?_getD, List.getElem?_eq_getElem hi, e]
  rfl
theorem step_mem {o rest : List Int} {B : Nat} (ho : o ≠ []) (hol : o.getLast? ≠ some 0) (hl : o.length ≤ rest.length) (h8 : ∀ z ∈ o, z.natAbs ≤ 8) (hb : ∀ z ∈ rest, z.natAbs ≤ B) : ∀ z ∈ stepL o rest, z.natAbs ≤ 16 * B := by
  intro z hz
  obtain ⟨i, rfl⟩ := mem_getD hz
  have h0 : 0 < o.length := List.length_pos_iff.mpr ho
  rw [step_getD h0 hl]
  obtain ⟨b1, b2⟩ := st_le (rl := rest.getD (rest.length - 1) 0) (last_ne hol ho) (getD_le' h8 _)
  have b3 := Nat.le_trans b2 (getD_le' hb _)
  have b4 := getD_le' hb i
  have b5 : (if rest.length - o.length ≤ i then o.getD (i - (rest.length - o.length)) 0 else 0).natAbs ≤ 8 := by
    split
    · exact getD_le' h8 _
    · exact Nat.zero_le _
  generalize stM (rest.getD (rest.length - 1) 0) (o.getD (o.length - 1) 0) = m at *
  generalize stS (rest.getD (rest.length - 1) 0) (o.getD (o.length - 1) 0) = s at *
  generalize (if rest.length - o.length ≤ i then o.getD (i - (rest.length - o.length)) 0 else 0) = c at *
  generalize rest.getD i 0 = x at *
  have c1 : (x * m).natAbs ≤ B * 8 := by
    rw [Int.natAbs_mul]
    exact Nat.mul_le_mul b4 b1
  have c2 : (s * c).natAbs ≤ B * 8 := by
    rw [Int.natAbs_mul]
    exact Nat.mul_le_mul b3 b5
  omega
theorem cv_le {a b : List Int} {B C : Nat} (ha : ∀ z ∈ a, z.natAbs ≤ B) (hb : ∀ z ∈ b, z.natAbs ≤ C) : ∀ k i, k ≤ a.length → (cv a b k i).natAbs ≤ k * (B * C)
  | 0, _, _ => Nat.zero_le _
  | k + 1, i, h => by
    have ih := cv_le ha hb k i (by omega)
    show (cv a b k i + (if k ≤ i ∧ i - k < b.length then a.getD k 0 * b.getD (i - k) 0 else 0)).natAbs ≤ (k + 1) * (B * C)
    rw [Nat.succ_mul]
    split
    · rename_i c
      have e1 : a.getD k 0 = a[k] := by rw [List.getD_eq_getElem?_getD, List.getElem?_eq_getElem (by omega)]; rfl
      have e2 : b.getD (i - k) 0 = b[i - k] := by rw [List.getD_eq_getElem?_getD, List.getElem?_eq_getElem c.2]; rfl
      rw [e1, e2]
      refine Nat.le_trans (Int.natAbs_add_le _ _) (Nat.add_le_add ih ?_)
      rw [Int.natAbs_mul]
      exact Nat.mul_le_mul (ha _ (List.getElem_mem _)) (hb _ (List.getElem_mem _))
    · rw [Int.add_zero]
      omega
theorem mul_len {a b : List Int} : (mulL a b).length ≤ a.length + b.length - 1 := by
  by_cases h : 0 < a.length + b.length
  · rw [mul_less h]
    exact Nat.le_trans (trim_len _) (by rw [lst_len]; exact Nat.le_refl _)
  · have : a = [] := List.length_eq_zero_iff.mp (by omega)
    subst this
    rw [mul_nil1]
    exact Nat.zero_le _
theorem mul_mem {a b : List Int} {B C : Nat} (ha : ∀ z ∈ a, z.natAbs ≤ B) (hb : ∀ z ∈ b, z.natAbs ≤ C) : ∀ z ∈ mulL a b, z.natAbs ≤ a.length * (B * C) := by
  intro z hz
  have h1 := trim_mem hz
  unfold lst at h1
  obtain ⟨i, _, rfl⟩ := List.mem_map.mp h1
  exact cv_le ha hb _ _ (Nat.le_refl _)
theorem add_mem {B : Nat} : ∀ {a b : List Int}, (∀ z ∈ a, z.natAbs ≤ B) → (∀ z ∈ b, z.natAbs ≤ B) → ∀ z ∈ addL a b, z.natAbs ≤ B + B
  | [], b, _, hb, z, hz => Nat.le_trans (hb z hz) (Nat.le_add_left _ _)
  | x :: a, [], ha, _, z, hz => Nat.le_trans (ha z (by rw [addL_nil] at hz; exact hz)) (Nat.le_add_left _ _)
  | x :: a, y :: b, ha, hb, z, hz => by
    rcases List.mem_cons.mp
          hz with rfl | hz
    · have h1 := ha x List.mem_cons_self
      have h2 := hb y List.mem_cons_self
      omega
    · exact add_mem (fun z hz => ha z (List.mem_cons_of_mem _ hz)) (fun z hz => hb z (List.mem_cons_of_mem _ hz)) z hz
end K6

namespace K6
open PySem L2 Ur
/-! ### products of functions -/
def cf : Nat → (Nat → Int) → (Nat → Int) → Int
  | 0, f, T => f 0 * T 0
  | i + 1, f, T => f 0 * T (i + 1) + cf i (fun j => f (j + 1)) T
theorem cf_none1 : ∀ (i : Nat) {f T : Nat → Int}, (∀ j, f j = 0) → cf i f T = 0
  | 0, f, T, h => by
    show f 0 * T 0 = 0
    rw [h, Int.zero_mul]
  | i + 1, f, T, h => by
    show f 0 * T (i + 1) + cf i _ T = 0
    rw [h, Int.zero_mul, cf_none1 i fun j => h (j + 1)]
    rfl
theorem conv_cf : ∀ (l : List Int) (T : Nat → Int) (i : Nat), conv l T i = cf i (fun j => l.getD j 0) T
  | [], T, i => by
    rw [cf_none1 i fun j => getD_none (Nat.zero_le _)]
    rfl
  | a :: o, T, 0 => by
    show a * T 0 + 0 = a * T 0
    rw [Int.add_zero]
  | a :: o, T, i + 1 => by
    show a * T (i + 1) + conv o T i = a * T (i + 1) + cf i (fun j => o.getD j 0) T
    rw [conv_cf o T i]
theorem cf_lin1 (x : Int) : ∀ (i : Nat) (f g T : Nat → Int), cf i (fun j => x * f j + g j) T = x * cf i f T + cf i g T
  | 0, f, g, T => by
    show (x * f 0 + g 0) * T 0 = x * (f 0 * T 0) + g 0 * T 0
    grind
  | i + 1, f, g, T => by
    show (x * f 0 + g 0) * T (i + 1) + cf i (fun j => x * f (j + 1) + g (j + 1)) T = x * (f 0 * T (i + 1) + cf i _ T) + (g 0 * T (i + 1) + cf i _ T)
    rw [cf_lin1 x i (fun j => f (j + 1)) (fun j => g (j + 1)) T]
    grind
theorem cf_lin2 (x : Int) : ∀ (i : Nat) (f S T : Nat → Int), cf i f (fun j => x * S j + T j) = x * cf i f S + cf i f T
  | 0, f, S, T => by
    show f 0 * (x * S 0 + T 0) = x * (f 0 * S 0) + f 0 * T 0
    grind
  | i + 1, f, S, T => by
    show f 0 * (x * S (i + 1) + T (i + 1)) + cf i _ (fun j => x * S j + T j) = x * (f 0 * S (i + 1) + cf i _ S) + (f 0 * T (i + 1) + cf i _ T)
    rw [cf_lin2 x i _ S T]
    grind
theorem cf_assoc : ∀ (i : Nat) (f g h : Nat → Int), cf i (fun j => cf j f g) h = cf i f (fun j => cf j g h)
  | 0, f, g, h => by
    show f 0 * g 0 * h 0 = f 0 * (g 0 * h 0)
    rw [Int.mul_assoc]
  | i + 1, f, g, h => by
    show f 0 * g 0 * h (i + 1) + cf i (fun j => f 0 * g (j + 1) + cf j (fun k => f (k + 1)) g) h = f 0 * (g 0 * h (i + 1) + cf i (fun k => g (k + 1)) h) + cf i (fun k => f (k + 1)) (fun j => cf j g h)
    rw [cf_lin1, cf_assoc i (fun k => f (k + 1)) g h]
    grind
/-! ### moved rows -/
def shf (p : Nat) (f : Nat → Int) (i : Nat) : Int := if p ≤ i then f (i - p) else 0
theorem shf_cf : ∀ (i p : Nat) (f : Nat → Int), cf i f (fun j => if j = p then 1 else 0) = shf p f i
  | 0, p, f => by
    show f 0 * (if 0 = p then 1 else 0) = if p ≤ 0 then f (0 - p) else 0
    by_cases h : 0 = p
    · subst h
      simp
    · rw [if_neg h, if_neg (by omega), Int.mul_zero]
  | i + 1, p, f => by
    show f 0 * (if i + 1 = p then 1 else 0) + cf i (fun j => f (j + 1)) _ = if p ≤ i + 1 then f (i + 1 - p) else 0
    rw [shf_cf i p]
    unfold shf
    by_cases h : i + 1 = p
    · subst h
      rw [if_pos rfl, if_neg (by omega), if_pos (Nat.le_refl _), Nat.sub_self]
      simp
    · rw [if_neg h]
      by_cases h2 : p ≤ i
      · rw [if_pos h2, if_pos (by omega), show i + 1 - p = i - p + 1 by omega]
        simp
      · rw [if_neg h2, if_neg (by omega)]
        simp
theorem cf_shf (i p : Nat) (f g : Nat → Int) : cf i f (shf p g) = shf p (fun j => cf j f g) i := by
  have e : shf p g = fun j => cf j g (fun k => if k = p then 1 else 0) := by
    funext j
    rw [shf_cf]
  rw [e, ← cf_assoc, shf_cf]
/-! ### rows that are one another's multiples -/
abbrev gd (l : List Int) : Nat → Int := fun j => l.getD j 0
/-- a row is the product of two others, but for a factor above 0 -/
def PB (b r ρ : List Int) : Prop := ∃ c k : Int, 0 < c ∧ 0 < k ∧ ∀ i, c * r.getD i 0 = k * cf i (gd b) (gd ρ)
def Pr (a b : List Int) : Prop := ∃ c k : Int, 0 < c ∧ 0 < k ∧ ∀ i, c * a.getD i 0 = k * b.getD i 0
/-- no nought at the end -/
abbrev Tr (l : List Int) : Prop := l.getLast? ≠ some 0
theorem Pr.refl (a : List Int) : Pr a a := ⟨1, 1, by decide, by decide, fun _ => rfl⟩
theorem Pr.symm {a b : List Int} (h : Pr a b) : Pr b a := by
  obtain ⟨c, k, hc, hk, e⟩ := h
  exact ⟨k, c, hk, hc, fun i => (e i).symm⟩
theorem Pr.trans {a b d : List Int} (h : Pr a b) (g : Pr b d) : Pr a d := by
  obtain ⟨c, k, hc, hk, e⟩ := h
  obtain ⟨c', k', hc', hk', e'⟩ := g
  refine ⟨c' * c, k * k', Int.mul_pos hc' hc, Int.mul_pos hk hk', fun i => ?_⟩
  have h1 := e i
  have h2 := e' i
  generalize a.getD i 0 = x at *
  generalize b.getD i 0 = y at *
  generalize d.getD i 0 = z at *
  rw [Int.mul_assoc, h1, Int.mul_assoc, ← h2]
  grind
theorem Pr.short {a b : List Int} (h : Pr a b) (ha : Tr a) (hb : Tr b) : shortL a = shortL b := by
  obtain ⟨c, k, hc, hk, e⟩ := h
  have e2 : (a.map fun n => c * n) = b.map fun n => k * n := rows_ext (scale_last hc ha) (scale_last hk hb) fun i => by
    rw [scale_getD, scale_getD, e i]
  rw [← short_scale hc a, e2, short_scale hk b]
theorem Pr.len {a b : List Int} (h : Pr a b) (ha : Tr a) (hb : Tr b) : a.length = b.length := by
  obtain ⟨c, k, hc, hk, e⟩ := h
  have e2 : (a.map fun n => c * n) = b.map fun n => k * n := rows_ext (scale_last hc ha) (scale_last hk hb) fun i => by
    rw [scale_getD, scale_getD, e i]
  have := congrArg List.length e2
  rwa [List.length_map, List.length_map] at this
theorem short_len (l : List Int) : (shortL l).length = l.length := by
  unfold shortL
  rw [List.length_map]
/-- a row is its shortest one times the common divisor -/
theorem short_mul {l : List Int} {i : Nat} : l.getD i 0 = (gAll l : Int) * (shortL l).getD i 0 := by
  unfold shortL
  rw [List.getD_eq_getElem?_getD,
        List.getD_eq_getElem?_getD, List.getElem?_map]
  cases e : l[i]? with
  | none => simp
  | some x =>
    have hd : gAll l ∣ x.natAbs := (gAll_dvd l 0).2 x (List.mem_of_getElem? e)
    obtain ⟨y, hy⟩ : ∃ y : Int, x = (gAll l : Int) * y := Int.ofNat_dvd_left.mpr hd
    show x = (gAll l : Int) * (x / (gAll l : Int))
    rcases Nat.eq_zero_or_pos (gAll l) with h0 | h0
    · rw [h0] at hy ⊢
      simpa using hy
    · rw [hy, Int.mul_ediv_cancel_left _ (by omega)]
theorem tr_pos {l : List Int} (h : Tr l) (h0 : l ≠ []) : 0 < gAll l := gAll_pos (List.getLast_mem h0) (fun e => h (by rw [List.getLast?_eq_some_getLast h0, e]))
theorem short_pr {l : List Int} (h : Tr l) : Pr l (shortL l) := by
  by_cases h0 : l = []
  · subst h0
    exact .refl _
  · refine ⟨1, (gAll l : Int), by decide, by have := tr_pos h h0; omega, fun i => ?_⟩
    rw [Int.one_mul, short_mul]
theorem short_nil {l : List Int} : shortL l = [] ↔ l = [] := by
  unfold shortL
  simp
theorem short_tr {l : List Int} (h : Tr l) : Tr (shortL l) := by
  by_cases h0 : l = []
  · subst h0
    exact fun h => nomatch h
  · intro e
    have hs : shortL l ≠ [] := fun z => h0 (short_nil.mp z)
    have e1 : (shortL l).getD ((shortL l).length - 1) 0 = 0 := by
      rw [last_getD hs]
      rw [List.getLast?_eq_some_getLast hs] at e
      exact Option.some.inj e
    rw [short_len] at e1
    have := short_mul (l := l) (i := l.length - 1)
    rw [e1, Int.mul_zero] at this
    exact last_ne h h0 this
theorem short_short {l : List Int} (h : Tr l) : shortL (shortL l) = shortL l := ((short_pr h).short h (short_tr h)).symm
/-- bits -/
def Bt (n : Nat) (l : List Int) : Prop := ∀ z ∈ l, z.natAbs < 2 ^ n
theorem Bt.up {n m : Nat} {l : List Int} (h : Bt n l) (hm : n ≤ m) : Bt m l := fun z hz => Nat.lt_of_lt_of_le (h z hz) (Nat.pow_le_pow_right (by decide) hm)
theorem Bt.get {n : Nat} {l : List Int} (h : Bt n l) (i : Nat) : (l.getD i 0).natAbs < 2 ^ n := by
  rw [ List.getD_eq_getElem?_getD ]
  cases e : l[i]? with
  | none => exact Nat.pow_pos (by decide)
  | some x => exact h x (List.mem_of_getElem? e)
theorem Bt.of {n : Nat} {l : List Int} (h : ∀ i, (l.getD i 0).natAbs < 2 ^ n) : Bt n l := fun z hz => by
  obtain ⟨i, rfl⟩ := mem_getD hz
  exact h i
theorem short_le {l : List Int} (i : Nat) (h : Tr l) : ((shortL l).getD i 0).natAbs ≤ (l.getD i 0).natAbs := by
  by_cases h0 : l = []
  · subst h0
    exact Nat.le_refl _
  · rw [short_mul (l := l), Int.natAbs_mul, Int.natAbs_natCast]
    exact Nat.le_mul_of_pos_left _ (tr_pos h h0)
theorem Bt.short {n : Nat} {l : List Int} (b : Bt n l) (h : Tr l) : Bt n (shortL l) := .of fun i => Nat.lt_of_le_of_lt (short_le i h) (b.get i)
theorem gAll_lt {n : Nat} {l : List Int} (b : Bt n l) (h : Tr l) (h0 : l ≠ []) : gAll l < 2 ^ n := by
  have h1 := last_ne h h0
  have h2 : gAll l ∣ (l.getD (l.length - 1) 0).natAbs := by
    rw [last_getD h0]
    exact (gAll_dvd l 0).2 _ (List.getLast_mem h0)
  exact Nat.lt_of_le_of_lt (Nat.le_of_dvd (by omega) h2) (b.get _)
theorem Bt.one {l : List Int} (h : Tr l) (h1 : l.length = 1) : Bt 1 (shortL l) := by
  match l, h1 with
  | [c], _ =>
    have hc : c ≠ 0 := fun e => h (by rw [e]; rfl)
    intro z hz
    have e : shortL [c] = [c / ((Nat.gcd 0 c.natAbs : Nat) : Int)] := rfl
    rw [e, Nat.gcd_zero_left] at hz
    rw [List.mem_singleton.mp hz]
    rcases Int.natAbs_eq c with h2 | h2
    · generalize c.natAbs = n at *
      subst h2
      rw [Int.ediv_self hc]
      decide
    · generalize c.natAbs = n at *
      subst h2
      rw [Int.neg_ediv_of_dvd (Int.dvd_refl _), Int.ediv_self (by omega)]
      decide
/-! ### lengths -/
theorem cf_beyond : ∀ (b : List Int) {T : Nat → Int} {t : Nat} (h : ∀ i, t < i → T i = 0) (i : Nat), b.length + t ≤ i → conv b T i = 0
  | [], _, _, _, _, _ => rfl
  | a :: o, T, t, h, 0, hi => by
    simp only [List.length_cons] at hi
    omega
  | a :: o, T, t, h, i + 1, hi => by
    show a * T (i + 1) + conv o T i = 0
    simp only [List.length_cons] at hi
    rw [h _ (by omega), cf_beyond o h i (by omega)]
    simp
theorem PB.nil {b r ρ : List Int} (h : PB b r ρ) (hr : Tr r) (h0 : ρ = []) : r = [] := by
  obtain ⟨c, k, hc, hk, e⟩ := h
  subst h0
  by_cases z : r = []
  · exact z
  · have h1 := e (r.length - 1)
    rw [← conv_cf, conv_none (fun i => getD_none (Nat.zero_le _)), Int.mul_zero] at h1
    rcases Int.mul_eq_zero.mp h1 with h2 | h2
    · omega
    · exact absurd h2 (last_ne hr z)
theorem PB.top {b r ρ : List Int} {c k : Int} (hc : 0 < c) (hk : 0 < k) (e : ∀ i, c * r.getD i 0 = k * cf i (gd b) (gd ρ)) (hb : Tr b) (b0 : b ≠ []) (hr : Tr r) (hρ : Tr ρ) (h0 : ρ ≠ []) :
    r ≠ [] ∧ r.length + 1 = b.length + ρ.length ∧ c * r.getD (r.length - 1) 0 = k * (b.getD (b.length - 1) 0 * ρ.getD (ρ.length - 1) 0) := by
  have pb : 0 < b.length := List.length_pos_iff.mpr b0
  have pρ : 0 < ρ.length := List.length_pos_iff.mpr h0
  have h1 : ∀ i, ρ.length - 1 < i → gd ρ i = 0 := fun i hi => getD_none (by omega)
  have t := conv_top h1 b b0
  have e1 := e (b.length - 1 + (ρ.length - 1))
  rw [← conv_cf, t] at e1
  have lb := last_ne hb b0
  have lρ := last_ne hρ h0
  have hne : r.getD (b.length - 1 + (ρ.length - 1)) 0 ≠ 0 := by
    intro z
    rw [z, Int.mul_zero] at e1
    rcases Int.mul_eq_zero.mp e1.symm with h2 | h2
    · omega
    · rcases Int.mul_eq_zero.mp h2 with h3 | h3
      · exact lb h3
      · exact lρ h3
  have hlt : b.length - 1 + (ρ.length - 1) < r.length := by
    rcases Nat.lt_or_ge (b.length - 1 + (ρ.length - 1)) r.length with h2 | h2
    · exact h2
    · exact absurd (getD_none h2) hne
  have r0 : r ≠ [] := fun z => by
    rw [z] at hlt
    exact absurd hlt (Nat.not_lt_zero _)
  have hge : r.length - 1 ≤ b.length - 1 + (ρ.length - 1) := by
    rcases Nat.lt_or_ge (b.length - 1 + (ρ.length - 1)) (r.length - 1) with h2 | h2
    · have e2 := e (r.length - 1)
      rw [← conv_cf, cf_beyond b h1 _ (by omega), Int.mul_zero] at e2
      rcases Int.mul_eq_zero.mp e2 with h3 | h3
      · omega
      · exact absurd h3 (last_ne hr r0)
    · exact h2
  have el : r.length - 1 = b.length - 1 + (ρ.length - 1) := by omega
  refine ⟨r0, by omega, ?_⟩
  rw [el]
  exact e1
/-! ### one step of a division, of multiples -/
theorem st_fac {rl ol : Int} (ho : ol ≠ 0) : ∃ g : Int, 0 < g ∧ g * stM rl ol = (ol.natAbs : Int) ∧ g * stS rl ol = rl * ol.sign := by
  have hg : 0 < Nat.gcd rl.natAbs ol.natAbs := Nat.gcd_pos_of_pos_right _ (by omega)
  refine ⟨(Nat.gcd rl.natAbs ol.natAbs : Nat), by omega, ?_, ?_⟩
  · unfold stM
    exact Int.mul_ediv_cancel' (Int.natCast_dvd_natCast.mpr (Nat.gcd_dvd_right _ _))
  · unfold stS
    rw [← Int.mul_assoc, Int.mul_ediv_cancel' (Int.ofNat_dvd_left.mpr (Nat.gcd_dvd_left _ _))]
theorem step_sh {o rest : List Int} (h0 : 0 < o.length) (hl : o.length ≤ rest.length) (i : Nat) : (stepL o rest).getD i 0 = rest.getD i 0 * stM (rest.getD (rest.length - 1) 0) (o.getD (o.length - 1) 0) - stS (rest.getD (rest.length - 1) 0) (o.getD (o.length - 1) 0) * shf (rest.length - o.length) (gd o) i := step_getD h0 hl i
theorem step_pb {b r ρ o o' : List Int} (hb : Tr b) (b0 : b ≠ []) (hr : Tr r) (hρ : Tr ρ) (ho : Tr o) (ho' : Tr o') (o0 : o' ≠ []) (h1 : PB b r ρ) (h2 : PB b o o') (hl : o'.length ≤ ρ.length) : o ≠ [] ∧ o.length ≤ r.length ∧ PB b (stepL o r) (stepL o' ρ) := by
  obtain ⟨c, k, hc, hk, e⟩ := h1
  obtain ⟨c', k', hc', hk', e'⟩ := h2
  have p0' : 0 < o'.length := List.length_pos_iff.mpr o0
  have ρ0 : ρ ≠ [] := fun z => by
    rw [z] at hl
    exact absurd p0' (Nat.not_lt_of_le hl)
  obtain ⟨r0, l1, t1⟩ := PB.top hc hk e hb b0 hr hρ ρ0
  obtain ⟨oo, l2, t2⟩ := PB.top hc' hk' e' hb b0 ho ho' o0
  have p0 : 0 < o.length := List.length_pos_iff.mpr oo
  have hlo : o.length ≤ r.length := by omega
  refine ⟨oo, hlo, ?_⟩
  have ep : ρ.length - o'.length = r.length - o.length := by omega
  obtain ⟨g, hg, f1, f2⟩ := st_fac (rl := r.getD (r.length - 1) 0) (last_ne ho oo)
  obtain ⟨g', hg', f1', f2'⟩ := st_fac (rl := ρ.getD (ρ.length - 1) 0) (last_ne ho' o0)
  have lb := last_ne hb b0
  have s1 := step_sh (o := o) (rest := r) p0 hlo
  have s2 := step_sh (o := o') (rest := ρ) p0' hl
  rw [ep] at s2
  have no := last_ne ho oo
  have no' := last_ne ho' o0
  generalize stM (r.getD (r.length - 1) 0) (o.getD (o.length - 1) 0) = M at *
  generalize stS (r.getD (r.length - 1) 0) (o.getD (o.length - 1) 0) = S at *
  generalize stM (ρ.getD (ρ.length - 1) 0) (o'.getD (o'.length - 1) 0) = M' at *
  generalize stS (ρ.getD (ρ.length - 1) 0) (o'.getD (o'.length - 1) 0) = S' at *
  generalize r.getD (r.length - 1) 0 = rl at *
  generalize ρ.getD (ρ.length - 1) 0 = ρl at *
  generalize o.getD (o.length - 1) 0 = ol at *
  generalize o'.getD (o'.length - 1) 0 = ol' at *
  generalize b.getD (b.length - 1) 0 = bl at *
  generalize r.length - o.length = p at *
  have a1 : c' * (ol.natAbs : Int) = k' * ((bl.natAbs : Int) * (ol'.natAbs : Int)) := by
    have := congrArg Int.natAbs t2
    rw [Int.natAbs_mul, Int.natAbs_mul, Int.natAbs_mul] at this
    have h3 : ((c'.natAbs * ol.natAbs : Nat) : Int) = ((k'.natAbs * (bl.natAbs * ol'.natAbs) : Nat) : Int) := congrArg _ this
    rw [Int.natCast_mul, Int.natCast_mul, Int.natCast_mul, Int.natAbs_of_nonneg (Int.le_of_lt hc'), Int.natAbs_of_nonneg (Int.le_of_lt hk')] at h3
    exact h3
  have a2 : ol.sign = bl.sign * ol'.sign := by
    have := congrArg Int.sign t2
    rw [Int.sign_mul, Int.sign_mul, Int.sign_mul, Int.sign_eq_one_of_pos hc', Int.sign_eq_one_of_pos hk', Int.one_mul, Int.one_mul] at this
    exact this
  have a3 : bl * bl.sign = (bl.natAbs : Int) := Int.mul_sign_self bl
  have hbl : 0 < (bl.natAbs : Int) := by omega
  refine ⟨c * c' * g, k * k' * (bl.natAbs : Int) * g', Int.mul_pos (Int.mul_pos hc hc') hg, Int.mul_pos (Int.mul_pos (Int.mul_pos hk hk') hbl) hg', fun i => ?_⟩
  have x1 := e i
  have x2 : c' * shf p (gd o) i = k' * shf p (fun j => cf j (gd b) (gd o')) i := by
    unfold shf
    split
    · exact e' _
    · simp
  have x3 : cf i (gd b) (gd (stepL o' ρ)) = M' * cf i (gd b) (gd ρ) - S' * shf p (fun j => cf j (gd b) (gd o')) i := by
    have e5 : gd (stepL o' ρ) = fun j => M' * gd ρ j + (-S') * shf p (gd o') j := by
      funext j
      show (stepL o' ρ).getD j 0 = _
      rw [s2 j]
      show ρ.getD j 0 * M' - S' * _ = M' * ρ.getD j 0 + _
      grind
    have e6 : (fun j => (-S') * shf p (gd o') j) = fun j => (-S') * shf p (gd o') j + 0 := by
      funext j
      rw [Int.add_zero]
    rw [e5, cf_lin2, e6, cf_lin2, cf_shf]
    have e7 : cf i (gd b) (fun _ => 0) = 0 := by
      rw [← conv_cf, conv_none (fun _ => rfl)]
    rw [e7]
    grind
  rw [s1 i, x3]
  generalize shf p (fun j => cf j (gd b) (gd o')) i = Y at *
  generalize cf i (gd b) (gd ρ) = X at *
  generalize shf p (gd o) i = y at *
  generalize r.getD i 0 = x at *
  generalize (bl.natAbs : Int) = ab at *
  generalize (ol.natAbs : Int) = ao at *
  generalize (ol'.natAbs : Int) = ao' at *
  have k1 : c * c' * g * (x * M) = k * k' * ab * g' * (M' * X) := by
    calc c * c' * g * (x * M) = (c * x) * c' * (g * M) := by grind
      _ = (k * X) * (c' * ao) := by rw [x1, f1]; grind
      _ = k * k' * ab * (ao' * X) := by rw [a1]; grind
      _ = k * k' * ab * g' * (M' * X) := by rw [← f1']; grind
  have k2 : c * c' * g * (S * y) = k * k' * ab * g' * (S' * Y) := by
    calc c * c' * g * (S * y) = (c' * y) * (c * (g * S)) := by grind
      _ = (k' * Y) * ((c * rl) * ol.sign) := by rw [x2, f2]; grind
      _ = k' * Y * (k * (bl * ρl) * (bl.sign * ol'.sign)) := by rw [t1, a2]
      _ = k * k' * (bl * bl.sign) * ((ρl * ol'.sign) * Y) := by grind
      _ = k * k' * ab * g' * (S' * Y) := by rw [a3, ← f2']; grind
  rw [Int.mul_sub, Int.mul_sub, k1, k2]
/-! ### remainders -/
inductive Rm (o : List Int) : List Int → List Int → Prop
  | stop {t : List Int} : t.length < o.length → Rm o t t
  | step {t R : List Int} : o.length ≤ t.length → Rm o (stepL o t) R → Rm o t R
theorem rm_ex {o : List Int} (ho : Tr o) (o0 : o ≠ []) : ∀ (n : Nat) (t : List Int), t.length ≤ n → Tr t → ∃ R, Rm o t R ∧ Tr R ∧ R.length < o.length
  | n, t, hn, ht => by
    rcases Nat.lt_or_ge t.length o.length with h | h
    · exact ⟨t, .stop h, ht, h⟩
    · have hl := step_less o0 ho h
      match n, hn with
      | 0, hn => omega
      | n + 1, hn =>
        obtain ⟨R, h1, h2, h3⟩ := rm_ex ho o0 n (stepL o t) (by omega) (trim_last _)
        exact ⟨R, .step h h1, h2, h3⟩
theorem rm_lt {o t R : List Int} (h : Rm o t R) : R.length < o.length := by
  induction h with
  | stop h => exact h
  | step _ _ ih => exact ih
theorem rm_tr {o t R : List Int} (h : Rm o t R) (ht : Tr t) : Tr R := by
  induction h with
  | stop _ => exact ht
  | step _ _ ih => exact ih (trim_last _)
theorem rm_pb {b o o' : List Int} (hb : Tr b) (b0 : b ≠ []) (ho : Tr o) (ho' : Tr o') (o0 : o' ≠ []) (h2 : PB b o o') {ρ R' : List Int} (h : Rm o' ρ R') : ∀ {r : List Int}, Tr r → Tr ρ → PB b r ρ → ∃ R, Rm o r R ∧ PB b R R' := by
  induction h with
  | @stop t hlt =>
    intro r hr hρ h1
    refine ⟨r, .stop ?_, h1⟩
    obtain ⟨c', k', hc', hk', e'⟩ := h2
    obtain ⟨oo, l2, _⟩ := PB.top hc' hk' e' hb b0 ho ho' o0
    by_cases z : t = []
    · rw [h1.nil hr z]
      exact List.length_pos_iff.mpr oo
    · obtain ⟨c, k, hc, hk, e⟩ := h1
      obtain ⟨_, l1, _⟩ := PB.top hc hk e hb b0 hr hρ z
      omega
  | step hl _ ih =>
    intro r hr hρ h1
    obtain ⟨_, hlo, h3⟩ := step_pb hb b0 hr hρ ho ho' o0 h1 h2 hl
    obtain ⟨R, h4, h5⟩ := ih (trim_last _) (trim_last _) h3
    exact ⟨R, .step hlo h4, h5⟩
theorem rm_fun {o t R : List Int} (h : Rm o t R) : ∀ {R' : List Int}, Rm o t R' → R = R' := by
  induction h with
  | stop h =>
    intro R' g
    cases g with
    | stop _ => rfl
    | step h2 _ => omega
  | step h _ ih =>
    intro R' g
    cases g with
    | stop h2 => omega
    | step _ g => exact ih g
theorem step_bt {o rest : List Int} {x y : Nat} (o0 : o ≠ []) (ho : Tr o) (hl : o.length ≤ rest.length) (bx : Bt x rest) (bo : Bt y o) : Bt (x + y + 1) (stepL o rest) := by
  have h0 : 0 < o.length := List.length_pos_iff.mpr o0
  refine .of fun i => ?_
  rw [step_sh h0 hl]
  have hno := last_ne ho o0
  obtain ⟨g, hg, f1, f2⟩ := st_fac (rl := rest.getD (rest.length - 1) 0) hno
  have b1 := bx.get (rest.length - 1)
  have b2 := bo.get (o.length - 1)
  have b3 := bx.get i
  have b4 : (shf (rest.length - o.length) (gd o) i).natAbs < 2 ^ y := by
    unfold shf
    split
    · exact bo.get _
    · exact Nat.pow_pos (by decide)
  generalize stM (rest.getD (rest.length - 1) 0) (o.getD (o.length - 1) 0) = M at *
  generalize stS (rest.getD (rest.length - 1) 0) (o.getD (o.length - 1) 0) = S at *
  generalize rest.getD (rest.length - 1) 0 = rl at *
  generalize o.getD (o.length - 1) 0 = ol at *
  generalize rest.getD i 0 = z at *
  generalize shf (rest.length - o.length) (gd o) i = w at *
  have m1 : M.natAbs ≤ ol.natAbs := by
    have := congrArg Int.natAbs f1
    rw [Int.natAbs_mul, Int.natAbs_natCast] at this
    rw [← this]
    exact Nat.le_mul_of_pos_left _ (by omega)
  have m2 : S.natAbs ≤ rl.natAbs := by
    have := congrArg Int.natAbs f2
    rw [Int.natAbs_mul, Int.natAbs_mul, Int.natAbs_sign_of_ne_zero hno, Nat.mul_one] at this
    rw [← this]
    exact Nat.le_mul_of_pos_left _ (by omega)
  have c1 : (z * M).natAbs < 2 ^ (x + y) := by
    rw [Int.natAbs_mul,
          Nat.pow_add]
    exact Nat.mul_lt_mul'' b3 (Nat.lt_of_le_of_lt m1 b2)
  have c2 : (S * w).natAbs < 2 ^ (x + y) := by
    rw [Int.natAbs_mul,
          Nat.pow_add]
    exact Nat.mul_lt_mul'' (Nat.lt_of_le_of_lt m2 b1) b4
  rw [Nat.pow_succ]
  omega
theorem rm_bt {o t R : List Int} (h : Rm o t R) (o0 : o ≠ []) (ho : Tr o) {y : Nat} (bo : Bt y o) : ∀ {x : Nat}, Bt x t → Bt (x + (t.length + 1 - o.length) * (y + 1)) R := by
  induction h with
  | stop h => intro x bx; exact bx.up (Nat.le_add_right _ _)
  | @step t R hl _ ih =>
    intro x bx
    have hless := step_less o0 ho hl
    refine (ih (step_bt o0 ho hl bx bo)).up ?_
    have e : t.length + 1 - o.length = ((stepL o t).length + 1 - o.length) + ((t.length + 1 - o.length) - ((stepL o t).length + 1 - o.length)) := by omega
    have e2 : 1 ≤ (t.length + 1 - o.length) - ((stepL o t).length + 1 - o.length) := by omega
    generalize (t.length + 1 - o.length) - ((stepL o t).length + 1 - o.length) = d at *
    rw [e, Nat.add_mul]
    generalize ((stepL o t).length + 1 - o.length) * (y + 1) = Z
    have : 1 * (y + 1) ≤ d * (y + 1) := Nat.mul_le_mul_right _ e2
    omega
end K6

namespace K6
open PySem L2 Ur
theorem rm_rel {o t R : List Int} (h : Rm o t R) (o0 : o ≠ []) (ho : Tr o) : ∃ (c : Int) (T : Nat → Int) (N : Nat), 0 < c ∧ (∀ i, N ≤ i → T i = 0) ∧ ∀ i, c * t.getD i 0 = R.getD i 0 + cf i (gd o) T := by
  induction h with
  | stop h => exact ⟨1, fun _ => 0, 0, by decide, fun _ _ => rfl, fun i => by rw [← conv_cf, conv_none (fun _ => rfl), Int.one_mul, Int.add_zero]⟩
  | @step t R hl _ ih =>
    obtain ⟨c, T, N, hc, hN, e⟩ := ih
    have h0 : 0 < o.length := List.length_pos_iff.mpr o0
    obtain ⟨m0, _⟩ := st_eq (rl := t.getD (t.length - 1) 0) (last_ne ho o0)
    have s1 := step_sh (o := o) (rest := t) h0 hl
    generalize stM (t.getD (t.length - 1) 0) (o.getD (o.length - 1) 0) = M at m0 s1
    generalize stS (t.getD (t.length - 1) 0) (o.getD (o.length - 1) 0) = S at s1
    generalize t.length - o.length = p at s1
    refine ⟨c * M, fun i => c * S * (if i = p then 1 else 0) + T i, max N (p + 1), Int.mul_pos hc m0, fun i hi => ?_, fun i => ?_⟩
    · show c * S * (if i = p then 1 else 0) + T i = 0
      rw [hN i (by omega), if_neg (by omega)]
      simp
    · have e1 := e i
      rw [s1 i] at e1
      rw [cf_lin2, shf_cf]
      generalize shf p (gd o) i = y at *
      generalize t.getD i 0 = x at *
      generalize R.getD i 0 = z at *
      generalize cf i (gd o) T = w at *
      grind
/-- a row divides another one, with fractions as coefficients -/
def Dv (g a : List Int) : Prop := ∃ (c : Int) (T : Nat → Int) (N : Nat), 0 < c ∧ (∀ i, N ≤ i → T i = 0) ∧ ∀ i, c * a.getD i 0 = cf i (gd g) T
theorem cf_one (i : Nat) (f : Nat → Int) : cf i f (fun j => if j = 0 then 1 else 0) = f i := by
  rw [shf_cf]
  unfold shf
  rw [if_pos (Nat.zero_le _), Nat.sub_zero]
theorem cf_none2 (i : Nat) (f : Nat → Int) : cf i f (fun _ => 0) = 0 := by
  have := cf_lin2 0 i f (fun _ => 0) (fun _ => 0)
  simp only [Int.zero_mul, Int.add_zero] at this
  have h2 := cf_lin2 1 i f (fun _ => 0) (fun _ => 0)
  simp only [Int.one_mul, Int.mul_zero, Int.add_zero] at h2
  omega
theorem Dv.self (a : List Int) : Dv a a := ⟨1, fun i => if i = 0 then 1 else 0, 1, by decide, fun i hi => if_neg (by omega), fun i => by rw [cf_one, Int.one_mul]⟩
theorem Dv.none (a : List Int) : Dv a [] := ⟨1, fun _ => 0, 0, by decide, fun i hi => rfl, fun i => by rw [cf_none2, getD_none (Nat.zero_le _)]; rfl⟩
theorem cf_end : ∀ (i : Nat) {f T : Nat → Int} {n m : Nat}, (∀ j, n ≤ j → f j = 0) → (∀ j, m ≤ j → T j = 0) → n + m ≤ i → cf i f T = 0
  | 0, f, T, n, m, h1, h2, hi => by
    show f 0 * T 0 = 0
    rw [h1 0 (by omega), Int.zero_mul]
  | i + 1, f, T, n, m, h1, h2, hi => by
    show f 0 * T (i + 1) + cf i (fun j => f (j + 1)) T = 0
    rw [h2 (i + 1) (by omega), Int.mul_zero, Int.zero_add]
    rcases Nat.eq_zero_or_pos n with h | h
    · exact cf_none1 i fun j => h1 (j + 1) (by omega)
    · exact cf_end i (n := n - 1) (m := m) (fun j hj => h1 (j + 1) (by omega)) h2 (by omega)
theorem cf_scale1 (x : Int) (i : Nat) (f T : Nat → Int) : cf i (fun j => x * f j) T = x * cf i f T := by
  have h := cf_lin1 x i f (fun _ => 0) T
  simp only [Int.add_zero] at h
  rw [h, cf_none1 i (fun _ => rfl), Int.add_zero]
theorem cf_scale2 (x : Int) (i : Nat) (f T : Nat → Int) : cf i f (fun j => x * T j) = x * cf i f T := by
  have h := cf_lin2 x i f T (fun _ => 0)
  simp only [Int.add_zero] at h
  rw [h, cf_none2, Int.add_zero]
/-! ### Euclid's way -/
inductive Ec (m : Nat) : List Int → List Int → List Int → Prop
  | stop {a : List Int} : Bt m a → Ec m a [] a
  | step {a b R g : List Int} {x y : Nat} : b ≠ [] → Bt x a → Bt y b → x + (a.length + 1 - b.length) * (y + 1) + y ≤ 9000 → Rm b a R → Ec m b (shortL R) g → Ec m a b g
theorem ec_bt {m : Nat} {a b g : List Int} (h : Ec m a b g) : Bt m g := by
  induction h with
  | stop h => exact h
  | step _ _ _ _ _ _ ih => exact ih
theorem ec_tr {m : Nat} {a b g : List Int} (h : Ec m a b g) : Tr a → Tr b → Tr g := by
  induction h with
  | stop _ => exact fun h _ => h
  | step _ _ _ _ r _ ih => exact fun ha hb => ih hb (short_tr (rm_tr r ha))
theorem ec_dv {m : Nat} {a b g : List Int} (h : Ec m a b g) : Tr a → Tr b → Dv g a ∧ Dv g b := by
  induction h with
  | stop _ => exact fun _ _ => ⟨.self _, .none _⟩
  | @step a b R g x y b0 _ _ _ r _ ih =>
    intro ha hb
    obtain ⟨d1, d2⟩ := ih hb (short_tr (rm_tr r ha))
    refine ⟨?_, d1⟩
    obtain ⟨c, T, N, hc, hN, e⟩ := rm_rel r b0 hb
    obtain ⟨c1, T1, N1, hc1, hN1, e1⟩ := d1
    obtain ⟨c2, T2, N2, hc2, hN2, e2⟩ := d2
    refine ⟨c * c1 * c2, fun i => (gAll R : Int) * c1 * T2 i + c2 * cf i T1 T, N1 + N + N2, Int.mul_pos (Int.mul_pos hc hc1) hc2, fun i hi => ?_, fun i => ?_⟩
    · show (gAll R : Int) * c1 * T2 i + c2 * cf i T1 T = 0
      rw [hN2 i (by omega), cf_end i hN1 hN (by omega)]
      simp
    · rw [cf_lin2, cf_scale2, ← cf_assoc]
      have q1 : c1 * cf i (gd b) T = cf i (fun j => cf j (gd g) T1) T := by
        rw [← cf_scale1]
        congr 1
        funext j
        exact e1 j
      rw [← q1, ← e2 i]
      have h3 := e i
      rw [short_mul (l := R)] at h3
      generalize a.getD i 0 = z at *
      generalize (shortL R).getD i 0 = v at *
      generalize cf i (gd b) T = w at *
      generalize (gAll R : Int) = G0 at *
      calc c * c1 * c2 * z = c1 * c2 * (c * z) := by grind
        _ = c1 * c2 * (G0 * v + w) := by rw [h3]
        _ = G0 * c1 * (c2 * v) + c2 * (c1 * w) := by grind
/-- what divides leaves nothing -/
theorem dv_none {o a R : List Int} (d : Dv o a) (r : Rm o a R) (o0 : o ≠ []) (ho : Tr o) (ha : Tr a) : R = [] := by
  obtain ⟨c, T, N, hc, hN, e⟩ := rm_rel r o0 ho
  obtain ⟨c1, T1, N1, hc1, hN1, e1⟩ := d
  have hlt := rm_lt r
  have hR := rm_tr r ha
  have key : ∀ i, c1 * R.getD i 0 = conv o (fun j => c * T1 j + (-c1) * T j) i := fun i => by
    rw [conv_cf]
    have h1 : (fun j => c * T1 j + (-c1) * T j) = fun j => c * T1 j + (fun k => (-c1) * T k) j := rfl
    rw [h1, cf_lin2, cf_scale2]
    have h2 := e i
    have h3 := e1 i
    show _ = c * cf i (gd o) T1 + _
    rw [← h3]
    generalize a.getD i 0 = z at *
    generalize R.getD i 0 = v at *
    generalize cf i (gd o) T = w at *
    have : v = c * z - w := by rw [h2]; grind
    rw [this]
    grind
  have z := conv_zero o0 (last_ne ho o0) (fun i hi => by
    rw [← key i, getD_none (by omega), Int.mul_zero]) (max N N1) (fun i hi => by
    show c * T1 i + (-c1) * T i = 0
    rw [hN i (by omega), hN1 i (by omega)]
    simp)
  by_cases h0 : R = []
  · exact h0
  · have h1 := key (R.length - 1)
    rw [conv_none z] at h1
    rcases Int.mul_eq_zero.mp h1 with h2 | h2
    · omega
    · exact absurd h2 (last_ne hR h0)
/-! ### how great the numbers get -/
def G (w m : Nat) : Nat → Nat → Nat → Nat → Nat → Bool
  | 0, _, _, _, _ => false
  | n + 1, e, d, x, y => if d = 0 then decide (x + w ≤ m) else decide (x + w + (e + 1 - d) * (y + w + 1) + (y + w) ≤ 9000) && (List.range d).all fun f => G w m n d f y (if f = 1 then 1 else x + (e + 1 - d) * (y + 1))
theorem G_left : ((List.range 8).all fun e => (List.range 8).all fun d => G 13 800 9 e d 10 10) = true := by decide +kernel
theorem G_third : ((List.range 14).all fun e => (List.range 6).all fun d => G 1 9000 8 e d 23 44) = true := by decide +kernel
theorem mul_bt {b ρ : List Int} {B w z : Nat} (hB : ∀ x ∈ b, x.natAbs ≤ B) (hw : b.length * B < 2 ^ w) (h : Bt z ρ) : Bt (z + w) (mulL b ρ) := fun x hx => by
  refine Nat.lt_of_le_of_lt (mul_mem hB (fun y hy => Nat.le_of_lt (h y hy)) x hx) ?_
  rw [← Nat.mul_assoc, Nat.pow_add, Nat.mul_comm (2 ^ z)]
  exact (Nat.mul_lt_mul_right (Nat.pow_pos (by decide))).mpr hw
theorem PB.pr {b r ρ r2 ρ2 : List Int} (h : PB b r ρ) (h1 : Pr r r2) (h2 : Pr ρ ρ2) : PB b r2 ρ2 := by
  obtain ⟨c, k, hc, hk, e⟩ := h
  obtain ⟨c1, k1, hc1, hk1, e1⟩ := h1
  obtain ⟨c2, k2, hc2, hk2, e2⟩ := h2
  refine ⟨c * k1 * c2, c1 * k * k2, Int.mul_pos (Int.mul_pos hc hk1) hc2, Int.mul_pos (Int.mul_pos hc1 hk) hk2, fun i => ?_⟩
  have q : c2 * cf i (gd b) (gd ρ) = k2 * cf i (gd b) (gd ρ2) := by
    rw [← cf_scale2, ← cf_scale2]
    congr 1
    funext j
    exact e2 j
  have h1 := e i
  have h2 := e1 i
  generalize cf i (gd b) (gd ρ) = X at *
  generalize cf i (gd b) (gd ρ2) = X2 at *
  generalize r.getD i 0 = x at *
  generalize r2.getD i 0 = x2 at *
  calc c * k1 * c2 * x2 = c * c2 * (k1 * x2) := by grind
    _ = c1 * c2 * (c * x) := by rw [← h2]; grind
    _ = c1 * k * (c2 * X) := by rw [h1]; grind
    _ = c1 * k * k2 * X2 := by rw [q]; grind
theorem PB.mul (b ρ : List Int) : PB b (mulL b ρ) ρ := ⟨1, 1, by decide, by decide, fun i => by rw [mul_getD, conv_cf]⟩
theorem PB.to {b r ρ : List Int} (h : PB b r ρ) : Pr r (mulL b ρ) := by
  obtain ⟨c, k, hc, hk, e⟩ := h
  exact ⟨c, k, hc, hk, fun i => by rw [mul_getD, conv_cf]; exact e i⟩
theorem PB.unit (a : List Int) : PB [1] a a := ⟨1, 1, by decide, by decide, fun i => by
  rw [← conv_cf]
  cases i with
  | zero => show 1 * a.getD 0 0 = 1 * (1 * a.getD 0 0 + 0); simp
  | succ i => show 1 * a.getD (i + 1) 0 = 1 * (1 * a.getD (i + 1) 0 + 0); simp⟩
theorem ec_of {w m B : Nat} {b : List Int} (hb : Tr b) (b0 : b ≠ []) (hB : ∀ x ∈ b, x.natAbs ≤ B) (hw : b.length * B < 2 ^ w) : ∀ (n : Nat) (r o ρ ρ' : List Int) (x y : Nat), Tr r → Tr o → Tr ρ → Tr ρ' → PB b r ρ → PB b o ρ' → Bt x ρ → Bt y ρ' → Bt (x + w) r → Bt (y + w) o → G w m n ρ.length ρ'.length x y = true →
    ∃ g, Ec m r o g ∧ Tr g ∧ ∃ ρg, PB b g ρg ∧ Tr ρg ∧ (ρ ≠ [] ∨ ρ' ≠ [] → ρg ≠ [])
  | 0, _, _, _, _, _, _, _, _, _, _, _, _, _, _, _, _, h => absurd h Bool.false_ne_true
  | n + 1, r, o, ρ, ρ', x, y, hr, ho, hρ, hρ', p1, p2, bx, bY, br, bo, hG => by
    unfold G at hG
    by_cases z : ρ' = []
    · have oo := p2.nil ho z
      subst oo
      subst z
      rw [if_pos (show ([] : List Int).length = 0 from rfl)] at hG
      exact ⟨r, .stop (br.up (of_decide_eq_true hG)), hr, ρ, p1, hρ, fun h => h.elim id fun h => absurd rfl h⟩
    · have z0 : ρ'.length ≠ 0 := fun e => z (List.length_eq_zero_iff.mp e)
      rw [if_neg z0, Bool.and_eq_true] at hG
      obtain ⟨c1, c2⟩ := hG
      have c1 := of_decide_eq_true c1
      obtain ⟨R', r1, t1, l1⟩ := rm_ex hρ' z ρ.length ρ (Nat.le_refl _) hρ
      obtain ⟨R, r2, p3⟩ := rm_pb hb b0 ho hρ' z p2 r1 hr hρ p1
      have t2 := rm_tr r2 hr
      have bR := rm_bt r1 z hρ' bY bx
      have bz : Bt (if R'.length = 1 then 1 else x + (ρ.length + 1 - ρ'.length) * (y + 1)) (shortL R') := by
        split
        · rename_i h1
          exact .one t1 h1
        · exact bR.short t1
      have p4 : PB b (shortL R) (shortL R') := p3.pr (short_pr t2) (short_pr t1)
      have bs : Bt ((if R'.length = 1 then 1 else x + (ρ.length + 1 - ρ'.length) * (y + 1)) + w) (shortL R) := by
        have e := p4.to.short (short_tr t2) (trim_last _)
        rw [short_short t2] at e
        rw [e]
        exact (mul_bt hB hw bz).short (trim_last _)
      have c3 := List.all_eq_true.mp c2 R'.length (List.mem_range.mpr l1)
      rw [← short_len R'] at c3
      rw [← short_len R'] at bz bs
      obtain ⟨g, h1, h2, ρg, h3, h4, h5⟩ := ec_of hb b0 hB hw n o (shortL R) ρ' (shortL R') y _ ho (short_tr t2) hρ' (short_tr t1) p2 p4 bY bz bo bs c3
      have oo : o ≠ [] ∧ o.length + 1 = b.length + ρ'.length := by
        obtain ⟨c, k, hc, hk, e⟩ := p2
        obtain ⟨q1, q2, _⟩ := PB.top hc hk e hb b0 ho hρ' z
        exact ⟨q1, q2⟩
      have lr : r.length + 1 - o.length ≤ ρ.length + 1 - ρ'.length := by
        have pb : 0 < b.length := List.length_pos_iff.mpr b0
        by_cases y0 : ρ = []
        · have r0 := p1.nil hr y0
          rw [r0]
          show 0 + 1 - o.length ≤ _
          omega
        · obtain ⟨c, k, hc, hk, e⟩ := p1
          obtain ⟨q1, q2, _⟩ := PB.top hc hk e hb b0 hr hρ y0
          omega
      refine ⟨g, .step oo.1 br bo ?_ r2 h1, h2, ρg, h3, h4, fun _ => h5 (Or.inl z)⟩
      have := Nat.mul_le_mul_right (y + w + 1) lr
      omega
end K6

namespace K6
open PySem L2 Ur
def sgn (n : Int) : Int := if 0 < n then 1 else if n < 0 then -1 else 0
theorem sgn_sign (n : Int) : sgn n = n.sign := by
  unfold sgn
  split
  · rw [Int.sign_eq_one_of_pos ‹_›]
  · split
    · rw [Int.sign_eq_neg_one_of_neg ‹_›]
    · have : n = 0 := by omega
      subst this
      rfl
abbrev sSign : Stmt := top 6
abbrev sRDiv : Stmt := top 19
abbrev sRRem : Stmt := top 20
abbrev sRemn : Stmt := top 23
section
variable {P : Program} {w : World} {K :
      PySem.W.Frag} {mg : Str → Option Value} {base : Heap}
abbrev p_num : List Str := ["number"]
theorem sc_sign : FnScope p_num p_num (defScope sSign) := ⟨rfl, rfl, rfl, by decide +kernel, rfl, by decide +kernel, by decide +kernel⟩
def spSgn : Sp := fun vs H Q _ => ∃ n : Int, vs = [.int n] ∧ Q (.int (sgn n)) H
theorem ok_sign {f : Addr} {fd : FuncData} (F : Fun K "sign_of" "sign_of" sSign f fd) : FnOk P w K mg base CX0 1 f fd p_num spSgn := by
  refine F.ok sc_sign (fun vs H Q E h => ?_) (fun cdv A outer s H vs Q E hr h => ?_)
  · obtain ⟨n, rfl, _⟩ := h
    rfl
  · obtain ⟨n, rfl, q⟩ := h
    refine ⟨_, (pss_cons (ps_if (pt_cmpR op_gt (pv 0) pe_int (nomark _)) (pss_one (ps_ret pe_int)) pss_nil)
      (pss_one (ps_ret (pe_ifExp (pt_cmpR op_lt (pv 0) pe_int (nomark _)) (pe_un un_neg pe_int) pe_int)))), ?_⟩
    unfold sgn at q
    refine ⟨_, rfl, _, _,
          rfl, rfl, _, rfl, ?_⟩
    refine ite2 (fun c
          => ?_) (fun c => ?_)
    · rw [if_pos (of_decide_eq_true c)] at q
      exact q
    · have c' : ¬ 0 < n := fun z => c (decide_eq_true z)
      rw [if_neg c'] at q
      refine ⟨_, rfl, _, _,
            rfl, rfl, _, rfl, ?_⟩
      refine ite2 (fun d => ?_) (fun d => ?_)
      · rw [if_pos (of_decide_eq_true d)] at q
        exact ⟨_, rfl, q⟩
      · rw [if_neg fun z => d (decide_eq_true z)] at q
        exact q
theorem at_last {l : List Int} (h : l ≠ []) : atI (l.map V.int) (-1) = some (V.int (l.getD (l.length - 1) 0)) := by
  have e : l.map V.int = l.dropLast.map V.int ++ [V.int (l.getLast h)] := by
    have := congrArg (List.map V.int) (List.dropLast_concat_getLast h).symm
    rw [List.map_append] at this
    exact this
  rw [e, last_getD h]
  exact atI_last _ _
theorem small9 {n : Nat} (h : n ≤ 100) : n < 2 ^ 9000 := Nat.lt_of_le_of_lt h (Nat.lt_of_lt_of_le (by decide : 100 < 2 ^ 7) (Nat.pow_le_pow_right (by decide) (by decide)))
abbrev n_rdiv : List Str := ["row", "other", "rest", "quotient", "divisor", "many", "share", "at", "k", "n"]
theorem sc_rdiv : FnScope n_rdiv p_ro (defScope sRDiv) := ⟨rfl, rfl, rfl, by decide +kernel, rfl, by decide +kernel, by decide +kernel⟩
theorem sc_rrem : FnScope p_ro p_ro (defScope sRRem) := ⟨rfl, rfl, rfl, by decide +kernel, rfl, by decide +kernel, by decide +kernel⟩
theorem sc_remn : FnScope p_ro p_ro (defScope sRemn) := ⟨rfl, rfl, rfl, by decide +kernel, rfl, by decide +kernel, by decide +kernel⟩
end
end K6

namespace K6
open PySem L2 Ur
abbrev sRBy : Stmt := top 17
abbrev sRCom : Stmt := top 21
abbrev sComF : Stmt := top 24
/-- rows of whatever size is let here -/
structure RW (a : List Int) : Prop where
  few : a.length ≤ 13
  tr : Tr a
  bt : Bt 9000 a
theorem RW.rw {a : List Int} (h : RW a) : isRw (a.map V.int) = true := by
  unfold isRw isNums
  rw [List.length_map, decide_eq_true h.few, all_ints, lastOk_of h.tr]
  rfl
theorem RW.l3 {a : List Int} (h : RW a) : a.length ≤ 1000 := Nat.le_trans h.few (by decide)
def spSh (K : PySem.W.Frag) : Sp := fun vs H Q _ => ∃ (v : V) (a : List Int), vs = [v] ∧ Tp K H v a ∧ RW a ∧ ∀ p H', Same H H' → Tp K H' p (shortL a) → Q p H'
/-- what a division asks -/
structure DOk (a o R : List Int) (x y : Nat) : Prop where
  o0 : o ≠ []
  ta : Tr a
  to : Tr o
  la : a.length ≤ 13
  lo : o.length ≤ 13
  ba : Bt x a
  bo : Bt y o
  h9 : x + (a.length + 1 - o.length) * (y + 1) + y ≤ 9000
  rm : Rm o a R
def spDiv (K : PySem.W.Frag) : Sp := fun vs H Q _ => ∃ (v v' : V) (a o R : List Int) (x y : Nat), vs = [v, v'] ∧ Tp K H v a ∧ Tp K H v' o ∧ DOk a o R x y ∧ ∀ (t : Addr) (q : V) (tr : Addr) (H' : Hp), Same H H' → SqT K H' t [q, .ref tr] → SqT K H' tr (R.map V.int) → Q (.ref t) H'
def spRemn (K : PySem.W.Frag) : Sp := fun vs H Q _ => ∃ (v v' : V) (a o R : List Int) (x y : Nat), vs = [v, v'] ∧ Tp K H v a ∧ Tp K H v' o ∧ DOk a o R x y ∧ ∀ (p : V) (H' : Hp), Same H H' → Tp K H' p (shortL R) → Q p H'
theorem DOk.btR {a o R : List Int} {x y : Nat} (h : DOk a o R x y) : Bt 9000 R := (rm_bt h.rm h.o0 h.to h.bo h.ba).up (by have := h.h9; omega)
theorem DOk.rwR {a o R : List Int} {x y : Nat} (h : DOk a o R x y) : RW R := ⟨by have := rm_lt h.rm; have := h.lo; omega, rm_tr h.rm h.ta, h.btR⟩
theorem DOk.rwa {a o R : List Int} {x y : Nat} (h : DOk a o R x y) : RW a := ⟨h.la, h.ta, h.ba.up (by have := h.h9; omega)⟩
theorem DOk.rwo {a o R : List Int} {x y : Nat} (h : DOk a o R x y) : RW o := ⟨h.lo, h.to, h.bo.up (by have := h.h9; omega)⟩
def limx (x y a n : Nat) : Nat := x + (a - n) * (y + 1)
structure DivAt (H : Hp) (a o R : List Int) (x y : Nat) (Ra D : Addr) (r qs : List Int) (H' : Hp) : Prop where
  same : Same H H'
  rest : H' Ra = some (.lst (r.map V.int))
  quot : H' D = some (.lst (qs.map V.int))
  rm : Rm o r R
  tr : Tr r
  few : r.length ≤ a.length
  many : a.length + 1 ≤ qs.length + o.length
  lq : qs.length ≤ 14
  br : Bt (limx x y a.length r.length) r
  bq : Bt (limx x y a.length r.length) qs
theorem limx_up {x y a n m : Nat} (h : n < m) (hm : m ≤ a) : limx x y a m + y + 1 ≤ limx x y a n := by
  unfold limx
  have e : a - n = (a - m) + (m - n) := by omega
  rw [e, Nat.add_mul]
  have : 1 * (y + 1) ≤ (m - n) * (y + 1) := Nat.mul_le_mul_right _ (by omega)
  omega
section
variable {P : Program} {w : World} {K :
      PySem.W.Frag} {mg : Str → Option Value} {base : Heap}
theorem st_abs {rl ol : Int} (ho : ol ≠ 0) : (stM rl ol).natAbs ≤ ol.natAbs ∧ (stS rl ol).natAbs ≤ rl.natAbs := by
  obtain ⟨g, hg, f1, f2⟩ := st_fac (rl := rl) ho
  constructor
  · have := congrArg Int.natAbs f1
    rw [Int.natAbs_mul, Int.natAbs_natCast] at this
    rw [← this]
    exact Nat.le_mul_of_pos_left _ (by omega)
  · have := congrArg Int.natAbs f2
    rw [Int.natAbs_mul, Int.natAbs_mul, Int.natAbs_sign_of_ne_zero ho, Nat.mul_one] at this
    rw [← this]
    exact Nat.le_mul_of_pos_left _ (by omega)
theorem rm_next {o t R : List Int} (h : Rm o t R) (hl : o.length ≤ t.length) : Rm o (stepL o t) R := by
  cases h with
  | stop h => omega
  | step _ h => exact h
theorem ok_rshort9 {f : Addr} {fd : FuncData} (F : Fun K "row_shortest" "row_shortest" sRShort f fd) (T : Bl mg) (H_common_divisor : Has P w K mg base "common_divisor" p_common_divisor 1 (spCom K)) : FnOk P w K mg base CX0 2 f fd p_r (spSh K) := by
  refine F.ok sc_rshort (fun vs H Q E h => ?_) (fun cdv A outer s H vs Q E hr h => ?_)
  · obtain ⟨_, _, rfl, _⟩ := h
    rfl
  · obtain ⟨va, a, rfl, ⟨ta, rfl, sa⟩, R, q⟩ := h
    refine ⟨_, (pss_cons (ps_set (i := 1) sc_rshort.nd rfl (Or.inr rfl) (pe_has H_common_divisor (hr.mono (by decide)) (by rfl) (pa_cons (pv 0) pa_nil)))
      (pss_one (ps_ret (pe_callTy call_tuple_of (by rfl) T.tuple PyProof.Rows.boot_tuple (pa_cons (pe_lc (own := [("n", 2)]) (g := gName 2) (tt := tYes) rfl sc_rshort.nd (pi_tup (pv 0)) (blkOk_by (N := n_rshort) (sc := defScope sRShort) (by decide +kernel)) (fun _ _ _ _ _ => pg_name (i := 2) sc_rshort.nd rfl (Or.inl rfl)) (fun _ _ _ _ _ => pts_nil) (fun _ _ _ _ _ => (pe_op op_fdivW (pv 2) (pv 1)))) pa_nil))))), ?_⟩
    have hl := R.few
    have gb : gAll a < 2 ^ 9000 := gAll_big a 0 big0 R.bt
    refine ⟨_, rfl, ta, a, rfl, sa, ?_⟩
    unfold tRet tCB tCons tNil gName
    dsimp only
    refine lcT (K := K) (a := ta) (xs := a.map V.int) (fun i y => y = .int (a.getD i 0 / (gAll a : Int))) (fun R r => ⟨_, rfl, r⟩) sa (by rw [List.length_map]; omega) (fun x => rfl) (fun i x H3 hi sm Q' q' => ?_) (fun D ys H2 hD s2 hy e1 e2 => ?_)
    · obtain ⟨z, hz, rfl⟩ := map_at hi
      have hne : a ≠ [] := fun h => by rw [h] at hz; cases hz
      have g0 := tr_pos R.tr hne
      refine ⟨_, rfl, _, rfl, _, _, rfl, rfl, wide_div (b := 9000) (by omega) (by simpa using gb) (by decide) (by decide), q' _ _ ?_ (Same.refl _)⟩
      rw [List.getD_eq_getElem?_getD, hz]
      rfl
    · have ey := vals_map (e1.trans (List.length_map ..)) e2
      refine ⟨D, ys, rfl, Or.inl ⟨SqL.of hy, fun l hl => q _ _ (s2.trans (same_new hl)) ⟨l, rfl, ?_⟩⟩⟩
      have es : shortL a = (List.range a.length).map fun i => a.getD i 0 / (gAll a : Int) := by
        unfold shortL
        apply List.ext_getElem?
        intro i
        rw [List.getElem?_map,
              List.getElem?_map]
        by_cases hi : i < a.length
        · rw [List.getElem?_range hi, List.getElem?_eq_getElem hi, Option.map_some, Option.map_some, List.getD_eq_getElem?_getD, List.getElem?_eq_getElem hi]
          rfl
        · rw [List.getElem?_eq_none (by omega), List.getElem?_eq_none (by rw [List.length_range]; omega)]
          rfl
      rw [es, ← ey]
      exact SqT.of upd_same
theorem ok_rdiv {f : Addr} {fd : FuncData} (F : Fun K "row_division" "row_division" sRDiv f fd) (T : Bl mg) (mG : mg "gcd" = some (.builtin "math.gcd")) (H_sign_of : Has P w K mg base "sign_of" p_num 1 spSgn) (H_trimmed : Has P w K mg base "trimmed" p_trimmed 1 (spTrim K)) : FnOk P w K mg base CX0 2 f fd p_ro (spDiv K) := by
  refine F.ok sc_rdiv (fun vs H Q E h => ?_) (fun cdv A outer s H vs Q E hr h => ?_)
  · obtain ⟨_, _, _, _, _, _, _, rfl, _⟩ := h
    rfl
  · obtain ⟨va, vb, a, o, RR, bx, bY, rfl, ⟨ta, rfl, sa⟩, ⟨tb, rfl, sb⟩, DK, q⟩ := h
    refine ⟨_, (pss_cons (ps_set (i := 2) sc_rdiv.nd rfl (Or.inl rfl) (pe_callTy call_list_of (by rfl) T.list PyProof.Rows.boot_list (pa_cons (pv 0) pa_nil)))
      (pss_cons (ps_set (i := 3) sc_rdiv.nd rfl (Or.inl rfl) (pe_op op_rep (pe_lst (pa_cons pe_int pa_nil)) (pe_callB (call_max2 rfl) (by rfl) T.max PyProof.Rows.boot_max (pa_cons pe_int (pa_cons (pe_op op_add (pe_op op_sub (pe_callB (r := rLen K) len_seq (by rfl) T.len PySem.boot_len (pa_cons (pv 0) pa_nil)) (pe_callB (r := rLen K) len_seq (by rfl) T.len PySem.boot_len (pa_cons (pv 1) pa_nil))) pe_int) pa_nil)))))
      (pss_cons (ps_while PassesOwn.never (pt_cmpR op_ge (pe_callB (r := rLen K) len_seq (by rfl) T.len PySem.boot_len (pa_cons (pv 2) pa_nil)) (pe_callB (r := rLen K) len_seq (by rfl) T.len PySem.boot_len (pa_cons (pv 1) pa_nil)) (nomark _)) (pss_cons (ps_set (i := 4) sc_rdiv.nd rfl (Or.inl rfl) (pe_callBfun cr_gcd (by rfl) mG (pa_cons (pe_ix (r := rIxL K) ix_list (pv 2) (pe_un un_neg pe_int) (fun _ _ => rfl)) (pa_cons (pe_ix (r := rIxT K) ix_tup (pv 1) (pe_un un_neg pe_int) (fun _ _ => rfl)) pa_nil))))
      (pss_cons (ps_set (i := 5) sc_rdiv.nd rfl (Or.inr rfl) (pe_op op_fdivW (pe_callB call_abs (by rfl) T.abs PyProof.Rows.boot_abs (pa_cons (pe_ix (r := rIxT K) ix_tup (pv 1) (pe_un un_neg pe_int) (fun _ _ => rfl)) pa_nil)) (pv 4)))
      (pss_cons (ps_set (i := 6) sc_rdiv.nd rfl (Or.inl rfl) (pe_op op_mulW (pe_op op_fdivW (pe_ix (r := rIxL K) ix_list (pv 2) (pe_un un_neg pe_int) (fun _ _ => rfl)) (pv 4)) (pe_has H_sign_of (hr.mono (by decide)) (by rfl) (pa_cons (pe_ix (r := rIxT K) ix_tup (pv 1) (pe_un un_neg pe_int) (fun _ _ => rfl)) pa_nil))))
      (pss_cons (ps_set (i := 7) sc_rdiv.nd rfl (Or.inl rfl) (pe_op op_sub (pe_callB (r := rLen K) len_seq (by rfl) T.len PySem.boot_len (pa_cons (pv 2) pa_nil)) (pe_callB (r := rLen K) len_seq (by rfl) T.len PySem.boot_len (pa_cons (pv 1) pa_nil))))
      (pss_cons (ps_setLc (i := 3) (own := [("n", 9)]) (g := gName 9) (tt := tYes) rfl sc_rdiv.nd rfl rfl (sw_true rfl rfl rfl (by decide +kernel)) (pi_list (pv 3)) (blkOk_by (N := n_rdiv) (sc := defScope sRDiv) (by decide +kernel)) (fun _ _ _ _ _ => pg_name (i := 9) sc_rdiv.nd rfl (Or.inl rfl)) (fun _ _ _ _ _ => pts_nil) (fun _ _ _ _ _ => (pe_op op_mulW (pv 9) (pv 5))))
      (pss_cons (ps_asg (pe_op op_add (pe_ix (r := rIxL K) ix_list (pv 3) (pv 7) (fun _ _ => rfl)) (pv 6)) (pg_sub (pv 3) (pv 7) set_list (fun _ => rfl)))
      (pss_cons (ps_setLc (i := 2) (own := [("n", 9)]) (g := gName 9) (tt := tYes) rfl sc_rdiv.nd rfl rfl (sw_true rfl rfl rfl (by decide +kernel)) (pi_list (pv 2)) (blkOk_by (N := n_rdiv) (sc := defScope sRDiv) (by decide +kernel)) (fun _ _ _ _ _ => pg_name (i := 9) sc_rdiv.nd rfl (Or.inl rfl)) (fun _ _ _ _ _ => pts_nil) (fun _ _ _ _ _ => (pe_op op_mulW (pv 9) (pv 5))))
      (pss_cons (ps_for PassesOwn.never rfl (pi_enumT (by rfl) T.enumerate (pa_cons (pv 1) pa_nil)) (pg_tup rfl (pgs_cons (pg_name (i := 8) sc_rdiv.nd rfl (Or.inl rfl)) (pgs_cons (pg_name (i := 9) sc_rdiv.nd rfl (Or.inl rfl)) pgs_nil))) (pss_one (ps_asg (pe_op op_sub (pe_ix (r := rIxL K) ix_list (pv 2) (pe_op op_add (pv 7) (pv 8)) (fun _ _ => rfl)) (pe_op op_mulW (pv 6) (pv 9))) (pg_sub (pv 2) (pe_op op_add (pv 7) (pv 8)) set_list (fun _ => rfl)))))
      (pss_one (ps_set (i := 2) sc_rdiv.nd rfl (Or.inl rfl) (pe_callTy call_list_of (by rfl) T.list PyProof.Rows.boot_list (pa_cons (pe_has H_trimmed (hr.mono (by decide)) (by rfl) (pa_cons (pv 2) pa_nil)) pa_nil)))))))))))))
      (pss_one (ps_ret (pe_tup (pa_cons (pe_has H_trimmed (hr.mono (by decide)) (by rfl) (pa_cons (pv 3) pa_nil)) (pa_cons (pe_callTy call_tuple_of (by rfl) T.tuple PyProof.Rows.boot_tuple (pa_cons (pv 2) pa_nil)) pa_nil)))))))), ?_⟩
    have la := DK.la
    have lo := DK.lo
    have h0 : 0 < o.length := List.length_pos_iff.mpr DK.o0
    refine ⟨_, rfl, ta, _, rfl, Or.inr sa, fun R hR => ?_⟩
    have sR := same_new (p := R) (o := HO.lst (a.map V.int)) hR
    have aR : (upd H R (.lst (a.map V.int))) R = some (.lst (a.map V.int)) := upd_same
    generalize upd H R (.lst (a.map V.int)) = H1 at sR aR ⊢
    refine ⟨by show 1 ≤ sizeLine; decide, fun l hl => ?_⟩
    refine ⟨_, rfl, ta, _, rfl, Or.inr (same_sqT (sR.trans (same_new hl)) sa), _, rfl, tb, _, rfl, Or.inr (same_sqT (sR.trans (same_new hl)) sb), _, _, rfl, rfl, _, _, rfl, rfl, _, _, rfl, l, _, _, rfl, rfl, upd_same, ?_⟩
    rw [List.length_map, List.length_map]
    obtain ⟨N, eN⟩ : ∃ N, N = a.length + 1 - o.length := ⟨_, rfl⟩
    have et : (if ((a.length : Int) - (o.length : Int) + 1) > 0 then ((a.length : Int) - (o.length : Int) + 1) else 0) = (N : Int) := by
      split <;> omega
    rw [et]
    refine ⟨by omega, by omega, ?_, fun D hD => ?_⟩
    · show 1 * N ≤ sizeLine
      exact Nat.le_trans (by omega : 1 * N ≤ 200) (by decide)
    have sl := same_new (p := l) (o := HO.lst [V.int 0]) hl
    rw [Int.toNat_natCast, zeros_lst]
    have I0 : DivAt H a o RR bx bY R D a (lst N fun _ => 0) (upd (upd H1 l (.lst [V.int 0])) D (.lst ((lst N fun _ => 0).map V.int))) := by
      refine ⟨sR.trans (sl.trans (same_new hD)), (sl.trans (same_new hD)) _ _ aR, upd_same, DK.rm, DK.ta, Nat.le_refl _, by rw [lst_len]; omega, by rw [lst_len]; omega, DK.ba.up (Nat.le_add_right _ _), fun z hz => ?_⟩
      unfold lst at hz
      obtain ⟨_, _, rfl⟩ := List.mem_map.mp hz
      exact Nat.pow_pos (by decide)
    generalize upd (upd H1 l (.lst [V.int 0])) D (.lst ((lst N fun _ => 0).map V.int)) = H2 at I0 ⊢
    refine ⟨fun m σ H' => ∃ (R D : Addr) (r qs : List Int) (x4 x5 x6 x7 x8 x9 : Option V), m = r.length ∧ σ = [some (.ref ta), some (.ref tb), some (.ref R), some (.ref D), x4, x5, x6, x7, x8, x9] ∧ DivAt H a o RR bx bY R D r qs H', ⟨a.length, R, D, a, _, none, none, none, none, none, none, rfl, rfl, I0⟩, ?_⟩
    clear I0 hD sl et eN N hl aR sR hR H1 H2 R D l
    rintro m σ H0 ⟨R, D, r, qs, x4, x5, x6, x7, x8, x9, rfl, rfl, I⟩
    refine ⟨_, rfl, R, _, rfl, Or.inl (SqL.of I.rest), _, rfl, tb, _, rfl, Or.inr (same_sqT I.same sb), _, _, rfl, rfl, _, rfl, ?_⟩
    rw [List.length_map, List.length_map]
    refine ite2 (fun c
          => ?_) (fun c => ?_)
    · have hlen : o.length ≤ r.length := by have := of_decide_eq_true c; omega
      have hrn : r ≠ [] := fun z => by rw [z] at hlen; exact absurd hlen (Nat.not_le_of_lt h0)
      have hlim : limx bx bY a.length r.length ≤ 9000 := by
        have h1 := DK.h9
        have h2 := I.few
        have h3 : (a.length - r.length) * (bY + 1) ≤ (a.length + 1 - o.length) * (bY + 1) := Nat.mul_le_mul_right _ (by omega)
        unfold limx
        omega
      have ho9 : Bt 9000 o := DK.bo.up (by have := DK.h9; omega)
      have lr : r.length ≤ 13 := Nat.le_trans I.few la
      obtain ⟨rl, erl⟩ : ∃ x, x = r.getD (r.length - 1) 0 := ⟨_, rfl⟩
      obtain ⟨ol, eol⟩ : ∃ x, x = o.getD (o.length - 1) 0 := ⟨_, rfl⟩
      have ol0 : ol ≠ 0 := by rw [eol]; exact last_ne DK.to DK.o0
      have al := at_last hrn
      have ao := at_last DK.o0
      rw [← erl] at al
      rw [← eol] at ao
      have brl : rl.natAbs < 2 ^ 9000 := by rw [erl]; exact (I.br.up hlim).get _
      have bol : ol.natAbs < 2 ^ 9000 := by rw [eol]; exact ho9.get _
      have hg : 0 < Nat.gcd rl.natAbs ol.natAbs := Nat.gcd_pos_of_pos_right _ (by omega)
      have gb : Nat.gcd rl.natAbs ol.natAbs < 2 ^ 9000 := Nat.lt_of_le_of_lt (Nat.gcd_le_right _ (by omega)) bol
      have cd : ∀ x : Int, CDivW x ((Nat.gcd rl.natAbs ol.natAbs : Nat) : Int) := fun x => wide_div (b := 9000) (by omega) (by simpa using gb) (by decide) (by decide)
      refine ⟨fun σ H' => ∃ (R D : Addr) (r' qs : List Int) (x4 x5 x6 x7 x8 x9 : Option V), r'.length < r.length ∧ σ = [some (.ref ta), some (.ref tb), some (.ref R), some (.ref D), x4, x5, x6, x7, x8, x9] ∧ DivAt H a o RR bx bY R D r' qs H', fun σ' H' h => ?_, ?_⟩
      · obtain ⟨R, D, r', qs, x4, x5, x6, x7, x8, x9, h1, h2, h3⟩ := h
        exact ⟨r'.length, h1, R, D, r', qs, x4, x5, x6, x7, x8, x9, rfl, h2, h3⟩
      have sb0 := same_sqT I.same sb
      refine ⟨_, rfl, _, rfl, R, _, -1, V.int rl, rfl, rfl, SqL.of I.rest, al, _, rfl, _, rfl, tb, _, -1, V.int ol, rfl, rfl, sb0, ao, rl, ol, rfl, ?_⟩
      refine ⟨_, rfl, _, rfl, tb, _, -1, V.int ol, rfl, rfl, sb0, ao, ol, rfl, _, rfl, _, _, rfl, rfl, cd _, ?_⟩
      dsimp only
      rw [abs_nat ol]
      have bS : (stS rl ol).natAbs ≤ rl.natAbs := (st_abs ol0).2
      have bM : (stM rl ol).natAbs ≤ ol.natAbs := (st_abs ol0).1
      have eS : rl / ((Nat.gcd rl.natAbs ol.natAbs : Nat) : Int) * sgn ol = stS rl ol := by rw [sgn_sign]; rfl
      have bdiv : (rl / ((Nat.gcd rl.natAbs ol.natAbs : Nat) : Int)).natAbs < 2 ^ 9000 := by
        refine Nat.lt_of_le_of_lt ?_ brl
        obtain ⟨p, hp⟩ : ∃ p : Int, rl = (Nat.gcd rl.natAbs ol.natAbs : Nat) * p := Int.ofNat_dvd_left.mpr (Nat.gcd_dvd_left _ _)
        generalize Nat.gcd rl.natAbs ol.natAbs = g at hp hg ⊢
        rw [hp, Int.mul_ediv_cancel_left _ (by omega), Int.natAbs_mul, Int.natAbs_natCast]
        exact Nat.le_mul_of_pos_left _ hg
      have bsg : (sgn ol).natAbs < 2 ^ 1 := by
        unfold sgn
        split
        · decide
        · split <;> decide
      refine ⟨_, rfl, _, rfl, R, _, -1, V.int rl, rfl, rfl, SqL.of I.rest, al, _, rfl, _, _, rfl, rfl, cd _, _, rfl, _, rfl, tb, _, -1, V.int ol, rfl, rfl, sb0, ao, ol, rfl, _, _, rfl, rfl, wide_mul (a := 9000) (b := 1) bdiv bsg (by decide) (by decide) (by decide), ?_⟩
      dsimp only
      rw [eS]
      have eM : ((ol.natAbs : Nat) : Int) / ((Nat.gcd rl.natAbs ol.natAbs : Nat) : Int) = stM rl ol := rfl
      rw [eM]
      refine ⟨_, rfl, R, _, rfl, Or.inl (SqL.of I.rest), _, rfl, tb, _, rfl, Or.inr sb0, _, _, rfl, rfl, ?_⟩
      rw [List.length_map, List.length_map]
      obtain ⟨p, hp⟩ : ∃ p : Nat, p = r.length - o.length := ⟨_, rfl⟩
      have ep : (r.length : Int) - (o.length : Int) = (p : Int) := by omega
      dsimp only
      rw [ep]
      have hM : (stM rl ol).natAbs < 2 ^ 9000 := Nat.lt_of_le_of_lt bM bol
      have bq9 := I.bq.up hlim
      have br9 := I.br.up hlim
      -- the quotient so far
      refine seq_of (asg_of ?_)
      refine lcL (K := K) (a := D) (xs := qs.map V.int) (fun i y => y = .int (qs.getD i 0 * stM rl ol)) (fun R r => ⟨_, rfl, r⟩) (SqL.of I.quot) (by rw [List.length_map]; have := I.lq; omega) (fun x => rfl) (fun i x H3 hi sm Q' q' => ?_) (fun D1 ys H2 hD1 s2 hy e1 e2 => ?_)
      · obtain ⟨z, hz, rfl⟩ := map_at hi
        refine ⟨_, rfl, _, rfl, _, _, rfl, rfl, wide_mul (a := 9000) (b := 9000) (bq9 z (List.mem_of_getElem? hz)) hM (by decide) (by decide) (by decide), q' _ _ ?_ (Same.refl _)⟩
        rw [List.getD_eq_getElem?_getD, hz]
        rfl
      have ey := vals_map (e1.trans (List.length_map ..)) e2
      rw [ey] at hy
      have F1 : Found H0 D1 qs.length (fun i => qs.getD i 0 * stM rl ol) H2 := ⟨hD1, s2, hy⟩
      clear ey e1 e2 hy s2
      have hpq : p < qs.length := by have := I.many; have := I.few; omega
      refine ⟨_, rfl, _, rfl, D1, _, _, V.int (qs.getD p 0 * stM rl ol), rfl, rfl, SqL.of F1.held, atI_nat (by rw [List.getElem?_map, lst_at hpq]; rfl), _, rfl, _, _, rfl, rfl, _, rfl, _, rfl, D1, _, _, p, rfl, rfl, F1.held, ?_, ?_⟩
      · rw [List.length_map, lst_len]
        unfold ixN
        rw [if_pos (by omega),
              if_pos (by omega)]
        rfl
      have F2 := F1.put (p := p) (v := qs.getD p 0 * stM rl ol + stS rl ol) (g := fun i => qs.getD i 0 * stM rl ol + if i = p then stS rl ol else 0) (fun i hi => by
        by_cases e : i = p
        · subst e
          rw [if_pos rfl, if_pos rfl]
        · rw [if_neg e, if_neg e, Int.add_zero])
      generalize upd H2 D1 (.lst (((lst qs.length fun i => qs.getD i 0 * stM rl ol).map V.int).set p (.int (qs.getD p 0 * stM rl ol + stS rl ol)))) = H3 at F2 ⊢
      -- the rest so far
      have hR3 := F2.same _ _ I.rest
      dsimp only
      refine seq_of (asg_of ?_)
      refine lcL (K := K) (a := R) (xs := r.map V.int) (fun i y => y = .int (r.getD i 0 * stM rl ol)) (fun R r => ⟨_, rfl, r⟩) (SqL.of hR3) (by rw [List.length_map]; omega) (fun x => rfl) (fun i x H3 hi sm Q' q' => ?_) (fun R1 ys H4 hR1 s4 hy e1 e2 => ?_)
      · obtain ⟨z, hz, rfl⟩ := map_at hi
        refine ⟨_, rfl, _, rfl, _, _, rfl, rfl, wide_mul (a := 9000) (b := 9000) (br9 z (List.mem_of_getElem? hz)) hM (by decide) (by decide) (by decide), q' _ _ ?_ (Same.refl _)⟩
        rw [List.getD_eq_getElem?_getD, hz]
        rfl
      have ey := vals_map (e1.trans (List.length_map ..)) e2
      rw [ey] at hy
      have G1 : Found H3 R1 r.length (fun i => r.getD i 0 * stM rl ol) H4 := ⟨hR1, s4, hy⟩
      clear ey e1 e2 hy s4
      have sH3 := I.same.trans F2.same
      refine ⟨_, rfl, tb, _, rfl, same_sqT (sH3.trans G1.same) sb, ?_⟩
      refine for_it (walk_enumT (K := K) (a := tb) (xs := o.map V.int)) (fun j σ H' => ∃ z t : Option V, σ = [some (.ref ta), some (.ref tb), some (.ref R1), some (.ref D1), some (.int (Nat.gcd rl.natAbs ol.natAbs : Nat)), some (.int (stM rl ol)), some (.int (stS rl ol)), some (.int (p : Nat)), z, t] ∧ Found H3 R1 r.length (rowAdd (fun i => r.getD i 0 * stM rl ol) p (-stS rl ol) o j) H') ⟨x8, x9, rfl, by rw [rowAdd_zero]; exact G1⟩ (fun i σ H' _ h => ?_) (fun j v σ H5 H' hj hP hY => ?_) (fun σ H' hP => ?_)
      · obtain ⟨_, _, _, f⟩ := h
        exact same_sqT (sH3.trans f.same) sb
      · obtain ⟨z, t, rfl, G2⟩ := hP
        obtain ⟨T1, n', rfl, hT, rfl, hn0⟩ := hY
        obtain ⟨n, hn, rfl⟩ := map_at hn0
        rw [List.length_map] at hj
        have hpj : p + j < r.length := by omega
        have hnb := ho9 n (List.mem_of_getElem? hn)
        have G3 := G2.pair (o := HO.tup [V.int (j : Nat), V.int n]) hT
        refine pair_in (K := K) upd_same ?_
        generalize upd H5 T1 (.tup [V.int (j : Nat), V.int n]) = H6 at G3 ⊢
        have e1 : ((p : Nat) : Int) + ((j : Nat) : Int) = ((p + j : Nat) : Int) := by omega
        refine ⟨_, rfl, _, rfl, _, rfl, _, _, rfl, rfl, R1, _, _, V.int (rowAdd (fun i => r.getD i 0 * stM rl ol) p (-stS rl ol) o j (p + j)), rfl, rfl, SqL.of G3.held, ?_, _, rfl, _, rfl, _, _, rfl, rfl, wide_mul (a := 9000) (b := 9000) (Nat.lt_of_le_of_lt bS brl) hnb (by decide) (by decide) (by decide), _, _, rfl, rfl, ?_⟩
        · rw [e1]
          exact atI_nat (by rw [List.getElem?_map, lst_at hpj]; rfl)
        · refine ⟨_, rfl, _, rfl, _, rfl, _, _, rfl, rfl, R1, _, _, p + j, rfl, rfl, G3.held, ?_, ⟨_, _, rfl, G3.put fun i hi => ?_⟩⟩
          · rw [e1, List.length_map, lst_len]
            unfold ixN
            rw [if_pos (by omega),
                  if_pos (by omega)]
            rfl
          · rw [rowAdd_step, List.getD_eq_getElem?_getD, hn]
            split
            · show _ + -stS rl ol * n = _ - stS rl ol * n
              rw [Int.neg_mul]
              rfl
            · rfl
      · obtain ⟨z, t, rfl, G2⟩ := hP
        rw [List.length_map] at G2
        refine ⟨_, rfl, R1, _, rfl, Or.inl (SqL.of G2.held), by rw [lst_len]; omega, fun v5 H5 s5 tp => ?_⟩
        have estep : trimL (lst r.length (rowAdd (fun i => r.getD i 0 * stM rl ol) p (-stS rl ol) o o.length)) = stepL o r := by
          unfold stepL
          rw [← erl, ← eol, ← hp]
        rw [estep] at tp
        obtain ⟨t5, rfl, st5⟩ := tp
        refine ⟨t5, _, rfl, Or.inr st5, fun R2 hR2 => ?_⟩
        have hless := step_less DK.o0 DK.to hlen
        have sall := s5.trans (same_new (p := R2) (o := HO.lst ((stepL o r).map V.int)) hR2)
        refine ⟨R2, D1, stepL o r, lst qs.length fun i => qs.getD i 0 * stM rl ol + if i = p then stS rl ol else 0, _, _, _, _, _, _, hless, rfl, ⟨sH3.trans (G2.same.trans sall), upd_same, sall _ _ (G2.same _ _ F2.held), rm_next I.rm hlen, trim_last _, by have := I.few; omega, by rw [lst_len]; exact I.many, by rw [lst_len]; exact I.lq, (step_bt DK.o0 DK.to hlen I.br DK.bo).up (limx_up hless I.few), fun z hz => ?_⟩⟩
        unfold lst at hz
        obtain ⟨i, _, rfl⟩ := List.mem_map.mp hz
        refine Nat.lt_of_lt_of_le ?_ (Nat.pow_le_pow_right (by decide) (limx_up (x := bx) (y := bY) hless I.few))
        have c1 : (qs.getD i 0 * stM rl ol).natAbs < 2 ^ (limx bx bY a.length r.length + bY) := by
          rw [Int.natAbs_mul,
                Nat.pow_add]
          refine Nat.mul_lt_mul'' (I.bq.get _) (Nat.lt_of_le_of_lt bM ?_)
          rw [eol]
          exact DK.bo.get _
        have c2 : (if i = p then stS rl ol else 0).natAbs < 2 ^ (limx bx bY a.length r.length + bY) := by
          split
          · refine Nat.lt_of_le_of_lt bS (Nat.lt_of_lt_of_le ?_ (Nat.pow_le_pow_right (by decide) (Nat.le_add_right _ _)))
            rw [erl]
            exact I.br.get _
          · exact Nat.pow_pos (by decide)
        rw [Nat.pow_succ]
        omega
    · have hlen : r.length < o.length := Nat.lt_of_not_le fun z => c (decide_eq_true (by omega))
      refine ⟨_, rfl, D, qs, rfl, Or.inl (SqL.of I.quot), by have := I.lq; omega, fun p H1 s1 tp => ⟨_, rfl, R, _, rfl, Or.inl ⟨SqL.of (s1 _ _ I.rest), fun l hl => ⟨by show 2 ≤ sizeLine; decide, fun t ht => ?_⟩⟩⟩⟩
      have er := rm_fun I.rm (.stop hlen)
      subst er
      exact q t p l _ (I.same.trans (s1.trans ((same_new hl).trans (same_new ht)))) (SqT.of upd_same) (same_sqT (same_new ht) (SqT.of upd_same))
theorem ok_rrem {f : Addr} {fd : FuncData} (F : Fun K "row_remainder" "row_remainder" sRRem f fd) (H_row_shortest : Has P w K mg base "row_shortest" p_r 2 (spSh K)) (H_row_division : Has P w K mg base "row_division" p_ro 2 (spDiv K)) : FnOk P w K mg base CX0 3 f fd p_ro (spRemn K) := by
  refine F.ok sc_rrem (fun vs H Q E h => ?_) (fun cdv A outer s H vs Q E hr h => ?_)
  · obtain ⟨_, _, _, _, _, _, _, rfl, _⟩ := h
    rfl
  · obtain ⟨va, vb, a, o, R, x, y, rfl, ta, tb, DK, q⟩ := h
    refine ⟨_, (pss_one (ps_ret (pe_has H_row_shortest (hr.mono (by decide)) (by rfl) (pa_cons (pe_ix (r := rIxT K) ix_tup (pe_has H_row_division (hr.mono (by decide)) (by rfl) (pa_cons (pv 0) (pa_cons (pv 1) pa_nil))) pe_int (fun _ _ => rfl)) pa_nil)))), ?_⟩
    exact ⟨_, rfl, _, rfl, va, vb, a, o, R, x, y, rfl, ta, tb, DK, fun t q' tr H1 s1 st str => ⟨t, _, 1, .ref tr, rfl, rfl, st, rfl, _, R, rfl, ⟨tr, rfl, str⟩, DK.rwR, fun p H2 s2 tp => q p H2 (s1.trans s2) tp⟩⟩
theorem ok_remn {f : Addr} {fd : FuncData} (F : Fun K "remainder" "remainder" sRemn f fd) (H_check_row : Has P w K mg base "check_row" n_value 5 (spChk K isRw)) (H_row_remainder : Has P w K mg base "row_remainder" p_ro 3 (spRemn K)) : FnOk P w K mg base CX0 6 f fd p_ro (spRemn K) := by
  refine F.ok sc_remn (fun vs H Q E h => ?_) (fun cdv A outer s H vs Q E hr h => ?_)
  · obtain ⟨_, _, _, _, _, _, _, rfl, _⟩ := h
    rfl
  · obtain ⟨va, vb, a, o, R, x, y, rfl, ta, tb, DK, q⟩ := h
    refine ⟨_, (pss_cons (ps_expr (pe_has H_check_row (hr.mono (by decide)) (by rfl) (pa_cons (pv 0) pa_nil)))
      (pss_cons (ps_expr (pe_has H_check_row (hr.mono (by decide)) (by rfl) (pa_cons (pv 1) pa_nil)))
      (pss_cons (ps_if (pt_not (pt_truth (pv 1) (fun _ => rfl))) (pss_one ps_never) pss_nil)
      (pss_one (ps_ret (pe_has H_row_remainder (hr.mono (by decide)) (by rfl) (pa_cons (pv 0) (pa_cons (pv 1) pa_nil)))))))), ?_⟩
    refine ⟨_, rfl, _, a, rfl, ta, DK.rwa.l3, DK.rwa.bt, DK.rwa.rw, fun H1 s1 => ⟨_, rfl, _, o, rfl, tb.same s1, DK.rwo.l3, DK.rwo.bt, DK.rwo.rw, fun H2 s2 => ?_⟩⟩
    have s12 := s1.trans s2
    obtain ⟨rb, rfl, sb⟩ := tb.same s12
    refine ⟨_, rfl, !(o.map V.int).isEmpty, Or.inr (Or.inl ⟨_, sb, rfl⟩), ?_⟩
    have e : (!(o.map V.int).isEmpty) = true := by
      cases h : o with
      | nil => exact absurd h DK.o0
      | cons x r => rfl
    rw [e]
    refine iteF ?_
    exact ⟨_, rfl, _, rfl, va, _, a, o, R, x, y, rfl, ta.same s12, ⟨rb, rfl, sb⟩, DK, fun p H3 s3 tp => q p H3 (s12.trans s3) tp⟩
/-! ### a row with the other sign -/
def negL (a : List Int) : List Int := a.map fun n => n * -1
/-- the row or that with the other sign: the last number above 0 -/
def posL (a : List Int) : List Int := if a ≠ [] ∧ a.getD (a.length - 1) 0 < 0 then negL a else a
theorem neg_getD (a : List Int) (i : Nat) : (negL a).getD i 0 = -a.getD i 0 := by
  unfold negL
  rw [List.getD_eq_getElem?_getD,
        List.getD_eq_getElem?_getD, List.getElem?_map]
  cases a[i]? with
  | none => rfl
  | some x => show x * -1 = -x; grind
theorem neg_len (a : List Int) : (negL a).length = a.length := by
  unfold negL
  rw [List.length_map]
theorem neg_tr {a : List Int} (h : Tr a) : Tr (negL a) := by
  by_cases h0 : a = []
  · subst h0
    exact fun h => nomatch h
  · intro e
    have hs : negL a ≠ [] := fun z => h0 (List.map_eq_nil_iff.mp z)
    have e1 : (negL a).getD ((negL a).length - 1) 0 = 0 := by
      rw [last_getD hs]
      rw [List.getLast?_eq_some_getLast hs] at e
      exact Option.some.inj e
    rw [neg_len, neg_getD] at e1
    exact last_ne h h0 (by omega)
theorem trim_id {a : List Int} (h : Tr a) : trimL a = a := rows_ext (trim_last a) h fun i => trim_getD a i
def spBy (K : PySem.W.Frag) : Sp := fun vs H Q _ => ∃ (v : V) (a : List Int), vs = [v, .int (-1)] ∧ Tp K H v a ∧ RW a ∧ ∀ p H', Same H H' → Tp K H' p (negL a) → Q p H'
abbrev n_rby : List Str := ["row", "number", "n"]
abbrev p_rby : List Str := ["row", "number"]
theorem sc_rby : FnScope n_rby p_rby (defScope sRBy) := ⟨rfl, rfl, rfl, by decide +kernel, rfl, by decide +kernel, by decide +kernel⟩
theorem neg_lst (a : List Int) : negL a = (List.range a.length).map fun i => a.getD i 0 * -1 := by
  apply List.ext_getElem?
  intro i
  unfold negL
  rw [List.getElem?_map,
        List.getElem?_map]
  by_cases hi : i < a.length
  · rw [List.getElem?_range hi, List.getElem?_eq_getElem hi, Option.map_some, Option.map_some, List.getD_eq_getElem?_getD, List.getElem?_eq_getElem hi]
    rfl
  · rw [List.getElem?_eq_none (by omega), List.getElem?_eq_none (by rw [List.length_range]; omega)]
    rfl
theorem ok_rby {f : Addr} {fd : FuncData} (F : Fun K "row_by" "row_by" sRBy f fd) (H_trimmed : Has P w K mg base "trimmed" p_trimmed 1 (spTrim K)) : FnOk P w K mg base CX0 2 f fd p_rby (spBy K) := by
  refine F.ok sc_rby (fun vs H Q E h => ?_) (fun cdv A outer s H vs Q E hr h => ?_)
  · obtain ⟨_, _, rfl, _⟩ := h
    rfl
  · obtain ⟨va, a, rfl, ⟨ta, rfl, sa⟩, R, q⟩ := h
    refine ⟨_, (pss_one (ps_ret (pe_has H_trimmed (hr.mono (by decide)) (by rfl) (pa_cons (pe_lc (own := [("n", 2)]) (g := gName 2) (tt := tYes) rfl sc_rby.nd (pi_tup (pv 0)) (blkOk_by (N := n_rby) (sc := defScope sRBy) (by decide +kernel)) (fun _ _ _ _ _ => pg_name (i := 2) sc_rby.nd rfl (Or.inl rfl)) (fun _ _ _ _ _ => pts_nil) (fun _ _ _ _ _ => (pe_op op_mulW (pv 2) (pv 1)))) pa_nil)))), ?_⟩
    unfold tRet tCall tCons tNil
    dsimp only
    refine lcT (K := K) (a := ta) (xs := a.map V.int) (fun i y => y = .int (a.getD i 0 * -1)) (fun R r => ⟨_, rfl, r⟩) sa (by rw [List.length_map]; have := R.few; omega) (fun x => rfl) (fun i x H3 hi sm Q' q' => ?_) (fun D ys H2 hD s2 hy e1 e2 => ?_)
    · obtain ⟨z, hz, rfl⟩ := map_at hi
      refine ⟨_, rfl, _, rfl, _, _, rfl, rfl, wide_mul (a := 9000) (b := 1) (R.bt z (List.mem_of_getElem? hz)) (by decide) (by decide) (by decide) (by decide), q' _ _ ?_ (Same.refl _)⟩
      rw [List.getD_eq_getElem?_getD, hz]
      rfl
    · have ey := vals_map (e1.trans (List.length_map ..)) e2
      rw [← neg_lst] at ey
      subst ey
      refine ⟨D, negL a, rfl, Or.inl (SqL.of hy), by rw [neg_len]; have := R.few; omega, fun p H3 s3 tp => q p H3 (s2.trans s3) ?_⟩
      rw [trim_id (neg_tr R.tr)] at tp
      exact tp
/-! ### the common factor -/
def spCF (K : PySem.W.Frag) : Sp := fun vs H Q _ => ∃ (v v' : V) (a b g : List Int) (m : Nat), vs = [v, v'] ∧ Tp K H v a ∧ Tp K H v' b ∧ Tr a ∧ Tr b ∧ a.length ≤ 13 ∧ b.length ≤ 13 ∧ Bt 9000 a ∧ Bt 9000 b ∧ m ≤ 9000 ∧ Ec m a b g ∧ ∀ p H', Same H H' → Tp K H' p (posL (shortL g)) → Q p H'
theorem RW.short {a : List Int} (h : RW a) : RW (shortL a) := ⟨by rw [short_len]; exact h.few, short_tr h.tr, h.bt.short h.tr⟩
theorem tp_truth {a : List Int} : (!(a.map V.int).isEmpty) = decide (a ≠ []) := by
  cases a <;> rfl
abbrev n_rcom : List Str := ["row", "other", "found"]
theorem sc_rcom : FnScope n_rcom p_ro (defScope sRCom) := ⟨rfl, rfl, rfl, by decide +kernel, rfl, by decide +kernel, by decide +kernel⟩
theorem ok_rcom {f : Addr} {fd : FuncData} (F : Fun K "row_common" "row_common" sRCom f fd) (H_row_shortest : Has P w K mg base "row_shortest" p_r 2 (spSh K)) (H_row_remainder : Has P w K mg base "row_remainder" p_ro 3 (spRemn K)) (H_row_by : Has P w K mg base "row_by" p_rby 2 (spBy K)) : FnOk P w K mg base CX0 4 f fd p_ro (spCF K) := by
  refine F.ok sc_rcom (fun vs H Q E h => ?_) (fun cdv A outer s H vs Q E hr h => ?_)
  · obtain ⟨_, _, _, _, _, _, rfl, _⟩ := h
    rfl
  · obtain ⟨va, vb, a, b, g, m, rfl, ta, tb, Ta, Tb, la, lb, ba, bb, hm, hE, q⟩ := h
    refine ⟨_, (pss_cons (ps_while PassesOwn.never (pt_truth (pv 1) (fun _ => rfl)) (pss_one (ps_par (i := 0) (j := 1) rfl sc_rcom.nd rfl rfl (by decide) rfl rfl (pa_cons (pv 1) (pa_cons (pe_has H_row_remainder (hr.mono (by decide)) (by rfl) (pa_cons (pv 0) (pa_cons (pv 1) pa_nil))) pa_nil)) (by rfl))))
      (pss_cons (ps_set (i := 2) sc_rcom.nd rfl (Or.inl rfl) (pe_has H_row_shortest (hr.mono (by decide)) (by rfl) (pa_cons (pv 0) pa_nil)))
      (pss_one (ps_ret (pe_ifExp ((pw_and (pt_truth (pv 2) (fun _ => rfl)) (pw_and1 (pt_cmpR op_lt (pe_ix (r := rIxT K) ix_tup (pv 2) (pe_un un_neg pe_int) (fun _ _ => rfl)) pe_int (nomark _))))).pt (pe_has H_row_by (hr.mono (by decide)) (by rfl) (pa_cons (pv 2) (pa_cons (pe_un un_neg pe_int) pa_nil))) (pv 2)))))), ?_⟩
    refine ⟨fun k σ H' => ∃ (va vb : V) (a b : List Int), k = b.length ∧ σ = [some va, some vb, none] ∧ Same H H' ∧ Tp K H' va a ∧ Tp K H' vb b ∧ Tr a ∧ Tr b ∧ a.length ≤ 13 ∧ b.length ≤ 13 ∧ Bt 9000 a ∧ Bt 9000 b ∧ Ec m a b g, ⟨b.length, va, vb, a, b, rfl, rfl, Same.refl _, ta, tb, Ta, Tb, la, lb, ba, bb, hE⟩, ?_⟩
    clear ta tb Ta Tb la lb ba bb hE va vb a b
    rintro k σ H0 ⟨va, vb, a, b, rfl, rfl, s0, ta, ⟨tb, rfl, sb⟩, Ta, Tb, la, lb, ba, bb, hE⟩
    refine ⟨_, rfl, !(b.map V.int).isEmpty, Or.inr (Or.inl ⟨_, sb, rfl⟩), ?_⟩
    rw [tp_truth]
    refine ite2 (fun c
          => ?_) (fun c => ?_)
    · have hb0 := of_decide_eq_true c
      cases hE with
      | stop _ => exact absurd rfl hb0
      | @step _ _ R _ x y b0 bx bY h9 r hE =>
        have DK : DOk a b R x y := ⟨b0, Ta, Tb, la, lb, bx, bY, h9, r⟩
        refine ⟨fun σ' H' => ∃ (va vb : V) (a' b' : List Int), b'.length < b.length ∧ σ' = [some va, some vb, none] ∧ Same H H' ∧ Tp K H' va a' ∧ Tp K H' vb b' ∧ Tr a' ∧ Tr b' ∧ a'.length ≤ 13 ∧ b'.length ≤ 13 ∧ Bt 9000 a' ∧ Bt 9000 b' ∧ Ec m a' b' g, fun σ' H' h => ?_, ?_⟩
        · obtain ⟨va, vb, a', b', h1, h2, h3⟩ := h
          exact ⟨b'.length, h1, va, vb, a', b', rfl, h2, h3⟩
        · refine ⟨_, rfl, _, rfl, _, rfl, va, _, a, b, R, x, y, rfl, ta, ⟨tb, rfl, sb⟩, DK, fun p H1 s1 tp => ⟨_, _, rfl, ?_⟩⟩
          have hlt := rm_lt r
          exact ⟨_, p, b, shortL R, by rw [short_len]; exact hlt, rfl, s0.trans s1, ⟨tb, rfl, same_sqT s1 sb⟩, tp, Tb, (DK.rwR.short).tr, lb, (DK.rwR.short).few, bb, (DK.rwR.short).bt, hE⟩
    · have hb0 : b = [] := Classical.byContradiction fun z => c (decide_eq_true z)
      subst hb0
      obtain ⟨rfl, bg⟩ : g = a ∧ Bt m g := by
        cases hE with
        | stop h => exact ⟨rfl, h⟩
        | step h _ _ _ _ _ => exact absurd rfl h
      have RA : RW g := ⟨la, Ta, ba⟩
      refine ⟨_, rfl, va, g, rfl, ta, RA, fun p H1 s1 tp => ?_⟩
      obtain ⟨tf, rfl, sf⟩ := tp
      have hsr := RA.short
      refine ⟨_, rfl, !((shortL g).map V.int).isEmpty, Or.inr (Or.inl ⟨_, sf, rfl⟩), ?_⟩
      rw [tp_truth]
      refine ite2 (fun c
            => ?_) (fun c => ?_)
      · have h0 := of_decide_eq_true c
        refine ⟨_, rfl, _, rfl, tf, _, -1, V.int ((shortL g).getD ((shortL g).length - 1) 0), rfl, rfl, sf, at_last h0, _, _, rfl, rfl, _, rfl, ?_⟩
        refine ite2 (fun d => ?_) (fun d => ?_)
        · have hd : (shortL g).getD ((shortL g).length - 1) 0 < 0 := of_decide_eq_true d
          refine ⟨_, rfl, _, rfl, _, shortL g, rfl, ⟨tf, rfl, sf⟩, hsr, fun p2 H2 s2 tp2 => q p2 H2 (s0.trans (s1.trans s2)) ?_⟩
          unfold posL
          rw [if_pos ⟨h0, hd⟩]
          exact tp2
        · refine ⟨_, rfl, q _ H1 (s0.trans s1) ?_⟩
          unfold posL
          rw [if_neg fun z => d (decide_eq_true z.2)]
          exact ⟨tf, rfl, sf⟩
      · refine ⟨_, rfl, q _ H1 (s0.trans s1) ?_⟩
        unfold posL
        rw [if_neg fun z => c (decide_eq_true z.1)]
        exact ⟨tf, rfl, sf⟩
theorem sc_comf : FnScope p_ro p_ro (defScope sComF) := ⟨rfl, rfl, rfl, by decide +kernel, rfl, by decide +kernel, by decide +kernel⟩
theorem ok_comf {f : Addr} {fd : FuncData} (F : Fun K "common_factor" "common_factor" sComF f fd) (H_check_row : Has P w K mg base "check_row" n_value 5 (spChk K isRw)) (H_row_common : Has P w K mg base "row_common" p_ro 4 (spCF K)) : FnOk P w K mg base CX0 6 f fd p_ro (spCF K) := by
  refine F.ok sc_comf (fun vs H Q E h => ?_) (fun cdv A outer s H vs Q E hr h => ?_)
  · obtain ⟨_, _, _, _, _, _, rfl, _⟩ := h
    rfl
  · obtain ⟨va, vb, a, b, g, m, rfl, ta, tb, Ta, Tb, la, lb, ba, bb, hm, hE, q⟩ := h
    refine ⟨_, (pss_cons (ps_expr (pe_has H_check_row (hr.mono (by decide)) (by rfl) (pa_cons (pv 0) pa_nil)))
      (pss_cons (ps_expr (pe_has H_check_row (hr.mono (by decide)) (by rfl) (pa_cons (pv 1) pa_nil)))
      (pss_one (ps_ret (pe_has H_row_common (hr.mono (by decide)) (by rfl) (pa_cons (pv 0) (pa_cons (pv 1) pa_nil))))))), ?_⟩
    have RA : RW a := ⟨la, Ta, ba⟩
    have RB : RW b := ⟨lb, Tb, bb⟩
    refine ⟨_, rfl, _, a, rfl, ta, RA.l3, RA.bt, RA.rw, fun H1 s1 => ⟨_, rfl, _, b, rfl, tb.same s1, RB.l3, RB.bt, RB.rw, fun H2 s2 => ?_⟩⟩
    have s12 := s1.trans s2
    exact ⟨_, rfl, _, rfl, va, vb, a, b, g, m, rfl, ta.same s12, tb.same s12, Ta, Tb, la, lb, ba, bb, hm, hE, fun p H3 s3 tp => q p H3 (s12.trans s3) tp⟩
end
end K6

namespace Ur
open PySem L2
section
variable {K : PySem.W.Frag} {xs : List V} {te : TE} {vs : List Nat} {j : Nat} {σ : L2.St} {H : Hp} {Q : VK}
/-- a list that is made for it -/
theorem lcLn {tl : TE} (Pe : Nat → V → Prop) (hx : ∀ R : VK, (∀ a H1, Same H H1 → SqL K H1 a xs → R (.ref a) H1) → tl σ H R) (hz : xs.length ≤ 100000) (hw : ∀ x, wipe ((wipe σ vs).set j (some x)) vs = wipe σ vs)
    (he : ∀ i x H3, xs[i]? = some x → Same H H3 → ∀ Q' : VK, (∀ y H4, Pe i y → Same H3 H4 → Q' y H4) → te ((wipe σ vs).set j (some x)) H3 Q')
    (hq : ∀ D ys H', H D = none → Same H H' → H' D = some (.lst ys) → ys.length = xs.length → (∀ i y, ys[i]? = some y → Pe i y) → Q (.ref D) H') : tLc (iList K tl) (gName j) tYes te vs σ H Q := by
  refine hx _ fun a H1 s1 hs => ⟨a, rfl, ⟨xs, hs⟩, fun D hD => ?_⟩
  refine lc_list (xs := xs) (Made H1 Pe D) (.start hD) (fun i H' _ m => m.same.seq hs) (fun i x H' hi m => ⟨hw x, ?_⟩) (fun H' ⟨hn, sm, ys, h1, h2, h3⟩ => hq D ys H' (s1.free hn) (s1.trans sm) h1 h2 h3)
  have hl := (List.getElem?_eq_some_iff.mp hi).1
  unfold tYes
  dsimp only
  rw [if_pos rfl]
  exact (m.turn (by omega) (he i x H' hi (s1.trans m.same)))
/-- a tuple that is made for it, or stands -/
theorem lcTn {tl : TE} (Pe : Nat → V → Prop) (hx : ∀ R : VK, (∀ a H1, Same H H1 → SqT K H1 a xs → R (.ref a) H1) → tl σ H R) (hz : xs.length ≤ 100000) (hw : ∀ x, wipe ((wipe σ vs).set j (some x)) vs = wipe σ vs)
    (he : ∀ i x H3, xs[i]? = some x → Same H H3 → ∀ Q' : VK, (∀ y H4, Pe i y → Same H3 H4 → Q' y H4) → te ((wipe σ vs).set j (some x)) H3 Q')
    (hq : ∀ D ys H', H D = none → Same H H' → H' D = some (.lst ys) → ys.length = xs.length → (∀ i y, ys[i]? = some y → Pe i y) → Q (.ref D) H') : tLc (iTup K tl) (gName j) tYes te vs σ H Q := by
  refine hx _ fun a H1 s1 hs => ⟨a, rfl, ⟨xs, hs⟩, fun D hD => ?_⟩
  refine lc_tup (xs := xs) (Made H1 Pe D) (.start hD) (fun i H' _ m => same_sqT m.same hs) (fun i x H' hi m => ⟨hw x, ?_⟩) (fun H' ⟨hn, sm, ys, h1, h2, h3⟩ => hq D ys H' (s1.free hn) (s1.trans sm) h1 h2 h3)
  have hl := (List.getElem?_eq_some_iff.mp hi).1
  unfold tYes
  dsimp only
  rw [if_pos rfl]
  exact (m.turn (by omega) (he i x H' hi (s1.trans m.same)))
end
end Ur
namespace K6
open PySem L2 Ur
theorem trim_fold : ∀ (l : List Int) (g : Nat), (trimL l).foldl (fun g n => Nat.gcd g n.natAbs) g = l.foldl (fun g n => Nat.gcd g n.natAbs) g
  | [], _ => rfl
  | x :: r, g => by
    unfold trimL
    split
    · rename_i c
      obtain ⟨c1, rfl⟩ := c
      have ih := trim_fold r g
      rw [c1] at ih
      show g = r.foldl _ (Nat.gcd g (0 : Int).natAbs)
      rw [show Nat.gcd g (0 : Int).natAbs = g from Nat.gcd_zero_right g, ← ih]
      rfl
    · exact trim_fold r _
theorem trim_gAll (l : List Int) : gAll (trimL l) = gAll l := trim_fold l 0
theorem cut_whole {ns : List Int} {m : Nat} (e : HT.sIx (ns.map V.int).length (ns.map V.int).length (some (m : Int)) = (ns.map V.int).length) : cutV (ns.map V.int) none (some (m : Int)) = ns.map V.int := by
  rw [HT.sIx_nat, List.length_map] at e
  rw [cut_to, List.take_of_length_le (by omega)]
def spLSh (K : PySem.W.Frag) : Sp := fun vs H Q _ => ∃ (a : Addr) (ns : List Int), vs = [.ref a] ∧ (SqL K H a (ns.map V.int) ∨ SqT K H a (ns.map V.int)) ∧ ns.length ≤ 1000 ∧ (trimL ns ≠ [] → gAll ns < 2 ^ 9000) ∧ ∀ p H', Same H H' → Tp K H' p (shortL (trimL ns)) → Q p H'
section
variable {P : Program} {w : World} {K :
      PySem.W.Frag} {mg : Str → Option Value} {base : Heap}
def ShL (ns : List Int) (a : Addr) (B : Int) (m : Nat) (σ : L2.St) : Prop := m ≤ ns.length ∧ σ = [some (.ref a), some (.int B), some (.int (m : Nat)), none] ∧ trimL (ns.take m) = trimL ns
theorem ok_lshort9 {f : Addr} {fd : FuncData} (F : Fun K "_law_short" "_law_short" sLShort f fd) (T : Bl mg) (H_law_common : Has P w K mg base "_law_common" p_lcom 1 (spLCom K)) : FnOk P w K mg base CX0 2 f fd p_some (spLSh K) := by
  refine F.ok sc_lshort (fun vs H Q E h => ?_) (fun cdv A outer s H vs Q E hr h => ?_)
  · obtain ⟨_, _, rfl, _⟩ := h
    rfl
  · obtain ⟨ta, a, rfl, sa, hl, hg, q⟩ := h
    obtain ⟨B, hB⟩ : ∃ B : Int, B = (if ((gAll a : Nat) : Int) > 1 then ((gAll a : Nat) : Int) else 1) := ⟨_, rfl⟩
    have fin : ∀ z : Int, z ∈ trimL a → CDivW z B ∧ z / B = z / (gAll (trimL a) : Int) := fun z hz => by
      have hne : trimL a ≠ [] := fun e => by rw [e] at hz; cases hz
      have gp : 0 < gAll a := by rw [← trim_gAll]; exact tr_pos (trim_last a) hne
      have gb := hg hne
      have eB : B = ((gAll a : Nat) : Int) := by rw [hB]; split <;> omega
      rw [eB, trim_gAll]
      exact ⟨wide_div (b := 9000) (by omega) (by simpa using gb) (by decide) (by decide), rfl⟩
    obtain sa | sa := sa
    · refine ⟨_, (pss_cons (ps_asg (pe_tup (pa_cons (pe_callB (call_max2 rfl) (by rfl) T.max PyProof.Rows.boot_max (pa_cons pe_int (pa_cons (pe_has H_law_common (hr.mono (by decide)) (by rfl) (pa_cons (pv 0) pa_nil)) pa_nil))) (pa_cons (pe_callB (r := rLen K) len_seq (by rfl) T.len PySem.boot_len (pa_cons (pv 0) pa_nil)) pa_nil))) (pg_tup rfl (pgs_cons (pg_name (i := 1) sc_lshort.nd rfl (Or.inr rfl)) (pgs_cons (pg_name (i := 2) sc_lshort.nd rfl (Or.inl rfl)) pgs_nil))))
      (pss_cons (ps_while PassesOwn.never ((pw_and (pt_cmpR op_gt (pv 2) pe_int (nomark _)) (pw_and1 (pt_cmpR op_eq (pe_ix (r := rIxL K) ix_list (pv 0) (pe_op op_sub (pv 2) pe_int) (fun _ _ => rfl)) pe_int (nomark _))))).pt (pss_one (ps_set (i := 2) sc_lshort.nd rfl (Or.inl rfl) (pe_op op_sub (pv 2) pe_int))))
      (pss_one (ps_ret (pe_callTy call_tuple_of (by rfl) T.tuple PyProof.Rows.boot_tuple (pa_cons (pe_lc (own := [("_law_each", 3)]) (g := gName 3) (tt := tYes) rfl sc_lshort.nd (pi_list (pe_slice sl_list (pv 0) po_none (po_some (pv 2)))) (blkOk_by (N := n_lshort) (sc := defScope sLShort) (by decide +kernel)) (fun _ _ _ _ _ => pg_name (i := 3) sc_lshort.nd rfl (Or.inl rfl)) (fun _ _ _ _ _ => pts_nil) (fun _ _ _ _ _ => (pe_op op_fdivW (pv 3) (pv 1)))) pa_nil)))))), ?_⟩
      refine ⟨_, rfl, ta, a, rfl, Or.inl sa, _, _, rfl, ?_⟩
      rw [← hB]
      refine ⟨_, rfl, ta, _, rfl, Or.inl sa, by show 2 ≤ sizeLine; decide, fun p0 hp0 => ?_⟩
      rw [List.length_map]
      have s1 := same_new (p := p0) (o := HO.tup [V.int B, .int (a.length : Nat)]) hp0
      refine ⟨p0, _, rfl, SqT.of upd_same, rfl, _, _, rfl, _, _, rfl, rfl, ?_⟩
      have sa1 := s1.seq sa
      generalize upd H p0 (.tup [V.int B, .int (a.length : Nat)]) = H1 at s1 sa1 ⊢
      refine ⟨fun m σ H' => ShL a ta B m σ ∧ H' = H1, ⟨a.length, ⟨Nat.le_refl _, rfl, by rw [List.take_length]⟩, rfl⟩, ?_⟩
      rintro m σ H' ⟨⟨hm, rfl, e⟩, rfl⟩
      refine ⟨_, rfl, _, _,
            rfl, rfl, _, rfl, ?_⟩
      refine ite2 (fun c
            => ?_) (fun c => ?_)
      · obtain ⟨j, rfl⟩ : ∃ j, m = j + 1 := ⟨m - 1, by have := of_decide_eq_true c; omega⟩
        have hj : j < a.length := by omega
        refine ⟨_, rfl, _, rfl, _, _, rfl, rfl, ta, _, _, V.int a[j], rfl, rfl, sa1, ?_, rfl, _, rfl, ?_⟩
        · rw [show (((j + 1 : Nat) : Int) - 1) = ((j : Nat) : Int) by omega]
          exact atI_nat (by simp [hj])
        · refine ite2 (fun d => ?_) (fun d => ?_)
          · have z : a[j] = 0 := V.int.inj (of_decide_eq_true d)
            refine ⟨fun σ' H'' => ShL a ta B j σ' ∧ H'' = H', fun σ' H'' h => ⟨j, Nat.lt_succ_self j, h⟩, ⟨_, rfl, _, _, rfl, rfl, ⟨⟨by omega, ?_, left_step (by simp [hj, z]) e⟩, rfl⟩⟩⟩
            show [some (V.ref ta), some (V.int B), some (V.int (((j + 1 : Nat) : Int) - 1)), none] = _
            rw [show (((j + 1 : Nat) : Int) - 1) = ((j : Nat) : Int) by omega]
          · have z : a[j] ≠ 0 := fun y => d (decide_eq_true (by rw [y]))
            have hend := left_end (by simp [hj]) z e
            unfold tRet tCB tCons tNil
            dsimp only
            refine lcLn (K := K) (xs := (trimL a).map V.int) (fun i y => y = .int ((trimL a).getD i 0 / (gAll (trimL a) : Int))) (fun R r => ⟨_, rfl, _, rfl, ((j + 1 : Nat) : Int), rfl, ta, _, rfl, sa1, fun p hp => r p _ (same_new hp) (by rw [cut_to, hend]; exact SqL.of upd_same)⟩) (by rw [List.length_map]; have := trim_len a; omega) (fun x => rfl) (fun i x H3 hi sm Q' q' => ?_) (fun D ys H2 hD s2 hy e1 e2 => ?_)
            · obtain ⟨z, hz, rfl⟩ := map_at hi
              obtain ⟨cd, ed⟩ := fin z (List.mem_of_getElem? hz)
              refine ⟨_, rfl, _, rfl, _, _, rfl, rfl, cd, q' _ _ ?_ (Same.refl _)⟩
              show V.int (z / B) = _
              rw [List.getD_eq_getElem?_getD, hz, ed]
              rfl
            · have ey := vals_map (e1.trans (List.length_map ..)) e2
              refine ⟨D, ys, rfl, Or.inl ⟨SqL.of hy, fun l hl => q _ _ (s1.trans (s2.trans (same_new hl))) ⟨l, rfl, ?_⟩⟩⟩
              rw [short_lst, ← ey]
              exact SqT.of upd_same
      · have z : m = 0 := Nat.eq_zero_of_not_pos fun y => c (decide_eq_true (by omega))
        subst z
        have hend : a.take 0 = trimL a := e
        refine iteF ?_
        dsimp only
        unfold tRet tCB tCons tNil
        dsimp only
        refine lcLn (K := K) (xs := (trimL a).map V.int) (fun i y => y = .int ((trimL a).getD i 0 / (gAll (trimL a) : Int))) (fun R r => ⟨_, rfl, _, rfl, ((0 : Nat) : Int), rfl, ta, _, rfl, sa1, fun p hp => r p _ (same_new hp) (by rw [cut_to, hend]; exact SqL.of upd_same)⟩) (by rw [List.length_map]; have := trim_len a; omega) (fun x => rfl) (fun i x H3 hi sm Q' q' => ?_) (fun D ys H2 hD s2 hy e1 e2 => ?_)
        · obtain ⟨z, hz, rfl⟩ := map_at hi
          obtain ⟨cd, ed⟩ := fin z (List.mem_of_getElem? hz)
          refine ⟨_, rfl, _, rfl, _, _, rfl, rfl, cd, q' _ _ ?_ (Same.refl _)⟩
          show V.int (z / B) = _
          rw [List.getD_eq_getElem?_getD, hz, ed]
          rfl
        · have ey := vals_map (e1.trans (List.length_map ..)) e2
          refine ⟨D, ys, rfl, Or.inl ⟨SqL.of hy, fun l hl => q _ _ (s1.trans (s2.trans (same_new hl))) ⟨l, rfl, ?_⟩⟩⟩
          rw [short_lst, ← ey]
          exact SqT.of upd_same
    · refine ⟨_, (pss_cons (ps_asg (pe_tup (pa_cons (pe_callB (call_max2 rfl) (by rfl) T.max PyProof.Rows.boot_max (pa_cons pe_int (pa_cons (pe_has H_law_common (hr.mono (by decide)) (by rfl) (pa_cons (pv 0) pa_nil)) pa_nil))) (pa_cons (pe_callB (r := rLen K) len_seq (by rfl) T.len PySem.boot_len (pa_cons (pv 0) pa_nil)) pa_nil))) (pg_tup rfl (pgs_cons (pg_name (i := 1) sc_lshort.nd rfl (Or.inr rfl)) (pgs_cons (pg_name (i := 2) sc_lshort.nd rfl (Or.inl rfl)) pgs_nil))))
      (pss_cons (ps_while PassesOwn.never ((pw_and (pt_cmpR op_gt (pv 2) pe_int (nomark _)) (pw_and1 (pt_cmpR op_eq (pe_ix (r := rIxT K) ix_tup (pv 0) (pe_op op_sub (pv 2) pe_int) (fun _ _ => rfl)) pe_int (nomark _))))).pt (pss_one (ps_set (i := 2) sc_lshort.nd rfl (Or.inl rfl) (pe_op op_sub (pv 2) pe_int))))
      (pss_one (ps_ret (pe_callTy call_tuple_of (by rfl) T.tuple PyProof.Rows.boot_tuple (pa_cons (pe_lc (own := [("_law_each", 3)]) (g := gName 3) (tt := tYes) rfl sc_lshort.nd (pi_tup (pe_slice sl_tupA (pv 0) po_none (po_some (pv 2)))) (blkOk_by (N := n_lshort) (sc := defScope sLShort) (by decide +kernel)) (fun _ _ _ _ _ => pg_name (i := 3) sc_lshort.nd rfl (Or.inl rfl)) (fun _ _ _ _ _ => pts_nil) (fun _ _ _ _ _ => (pe_op op_fdivW (pv 3) (pv 1)))) pa_nil)))))), ?_⟩
      refine ⟨_, rfl, ta, a, rfl, Or.inr sa, _, _, rfl, ?_⟩
      rw [← hB]
      refine ⟨_, rfl, ta, _, rfl, Or.inr sa, by show 2 ≤ sizeLine; decide, fun p0 hp0 => ?_⟩
      rw [List.length_map]
      have s1 := same_new (p := p0) (o := HO.tup [V.int B, .int (a.length : Nat)]) hp0
      refine ⟨p0, _, rfl, SqT.of upd_same, rfl, _, _, rfl, _, _, rfl, rfl, ?_⟩
      have sa1 := same_sqT s1 sa
      generalize upd H p0 (.tup [V.int B, .int (a.length : Nat)]) = H1 at s1 sa1 ⊢
      refine ⟨fun m σ H' => ShL a ta B m σ ∧ H' = H1, ⟨a.length, ⟨Nat.le_refl _, rfl, by rw [List.take_length]⟩, rfl⟩, ?_⟩
      rintro m σ H' ⟨⟨hm, rfl, e⟩, rfl⟩
      refine ⟨_, rfl, _, _,
            rfl, rfl, _, rfl, ?_⟩
      refine ite2 (fun c
            => ?_) (fun c => ?_)
      · obtain ⟨j, rfl⟩ : ∃ j, m = j + 1 := ⟨m - 1, by have := of_decide_eq_true c; omega⟩
        have hj : j < a.length := by omega
        refine ⟨_, rfl, _, rfl, _, _, rfl, rfl, ta, _, _, V.int a[j], rfl, rfl, sa1, ?_, rfl, _, rfl, ?_⟩
        · rw [show (((j + 1 : Nat) : Int) - 1) = ((j : Nat) : Int) by omega]
          exact atI_nat (by simp [hj])
        · refine ite2 (fun d => ?_) (fun d => ?_)
          · have z : a[j] = 0 := V.int.inj (of_decide_eq_true d)
            refine ⟨fun σ' H'' => ShL a ta B j σ' ∧ H'' = H', fun σ' H'' h => ⟨j, Nat.lt_succ_self j, h⟩, ⟨_, rfl, _, _, rfl, rfl, ⟨⟨by omega, ?_, left_step (by simp [hj, z]) e⟩, rfl⟩⟩⟩
            show [some (V.ref ta), some (V.int B), some (V.int (((j + 1 : Nat) : Int) - 1)), none] = _
            rw [show (((j + 1 : Nat) : Int) - 1) = ((j : Nat) : Int) by omega]
          · have z : a[j] ≠ 0 := fun y => d (decide_eq_true (by rw [y]))
            have hend := left_end (by simp [hj]) z e
            unfold tRet tCB tCons tNil
            dsimp only
            refine lcTn (K := K) (xs := (trimL a).map V.int) (fun i y => y = .int ((trimL a).getD i 0 / (gAll (trimL a) : Int))) (fun R r => ⟨_, rfl, _, rfl, ((j + 1 : Nat) : Int), rfl, ta, _, rfl, sa1, fun cw => r ta _ (Same.refl _) (by rw [← hend, ← cut_to, cut_whole cw.2]; exact sa1), fun cw p hp => r p _ (same_new hp) (by rw [← hend, ← cut_to]; exact SqT.of upd_same)⟩) (by rw [List.length_map]; have := trim_len a; omega) (fun x => rfl) (fun i x H3 hi sm Q' q' => ?_) (fun D ys H2 hD s2 hy e1 e2 => ?_)
            · obtain ⟨z, hz, rfl⟩ := map_at hi
              obtain ⟨cd, ed⟩ := fin z (List.mem_of_getElem? hz)
              refine ⟨_, rfl, _, rfl, _, _, rfl, rfl, cd, q' _ _ ?_ (Same.refl _)⟩
              show V.int (z / B) = _
              rw [List.getD_eq_getElem?_getD, hz, ed]
              rfl
            · have ey := vals_map (e1.trans (List.length_map ..)) e2
              refine ⟨D, ys, rfl, Or.inl ⟨SqL.of hy, fun l hl => q _ _ (s1.trans (s2.trans (same_new hl))) ⟨l, rfl, ?_⟩⟩⟩
              rw [short_lst, ← ey]
              exact SqT.of upd_same
      · have z : m = 0 := Nat.eq_zero_of_not_pos fun y => c (decide_eq_true (by omega))
        subst z
        have hend : a.take 0 = trimL a := e
        refine iteF ?_
        dsimp only
        unfold tRet tCB tCons tNil
        dsimp only
        refine lcTn (K := K) (xs := (trimL a).map V.int) (fun i y => y = .int ((trimL a).getD i 0 / (gAll (trimL a) : Int))) (fun R r => ⟨_, rfl, _, rfl, ((0 : Nat) : Int), rfl, ta, _, rfl, sa1, fun cw => r ta _ (Same.refl _) (by rw [← hend, ← cut_to, cut_whole cw.2]; exact sa1), fun cw p hp => r p _ (same_new hp) (by rw [← hend, ← cut_to]; exact SqT.of upd_same)⟩) (by rw [List.length_map]; have := trim_len a; omega) (fun x => rfl) (fun i x H3 hi sm Q' q' => ?_) (fun D ys H2 hD s2 hy e1 e2 => ?_)
        · obtain ⟨z, hz, rfl⟩ := map_at hi
          obtain ⟨cd, ed⟩ := fin z (List.mem_of_getElem? hz)
          refine ⟨_, rfl, _, rfl, _, _, rfl, rfl, cd, q' _ _ ?_ (Same.refl _)⟩
          show V.int (z / B) = _
          rw [List.getD_eq_getElem?_getD, hz, ed]
          rfl
        · have ey := vals_map (e1.trans (List.length_map ..)) e2
          refine ⟨D, ys, rfl, Or.inl ⟨SqL.of hy, fun l hl => q _ _ (s1.trans (s2.trans (same_new hl))) ⟨l, rfl, ?_⟩⟩⟩
          rw [short_lst, ← ey]
          exact SqT.of upd_same
def spMul3 (K : PySem.W.Frag) : Sp := fun vs H Q _ => ∃ (v v' : V) (a b : List Int), vs = [v, v'] ∧ (Tp K H v a ∧ (Tp K H v' b ∨ ∃ tb : Addr, v' = .ref tb ∧ SqL K H tb (b.map V.int)) ∨ (∃ ta : Addr, v = .ref ta ∧ SqL K H ta (a.map V.int)) ∧ ∃ tb : Addr, v' = .ref tb ∧ SqL K H tb (b.map V.int)) ∧ a.length ≤ 100 ∧ b.length ≤ 100 ∧ (∀ n ∈ a, n.natAbs < 2 ^ 64) ∧ ∀ p H', Same H H' → Tp K H' p (mulL a b) → Q p H'
theorem ok_lmult3 {f : Addr} {fd : FuncData} (F : Fun K "_law_multiplied" "_law_multiplied" sLMult f fd) (T : Bl mg) (H_law_trim : Has P w K mg base "_law_trim" p_some 1 (spLTrim K)) : FnOk P w K mg base CX0 2 f fd p_lot (spMul3 K) := by
  refine F.ok sc_lmult (fun vs H Q E h => ?_) (fun cdv A outer s H vs Q E hr h => ?_)
  · obtain ⟨_, _, _, _, rfl, _⟩ := h
    rfl
  · obtain ⟨va, vb, a, b, rfl, ⟨⟨ta, rfl, sa⟩, ⟨tb, rfl, sb⟩ | ⟨tb, rfl, sb⟩⟩ | ⟨⟨ta, rfl, sa⟩, ⟨tb, rfl, sb⟩⟩, la, lb, ba, q⟩ := h
    · refine ⟨_, (pss_cons (ps_setLc (i := 2) (own := [("_law_turn", 5)]) (g := gName 5) (tt := tYes) rfl sc_lmult.nd rfl rfl (sw_true rfl rfl rfl (by decide +kernel)) (pi_range1 (by rfl) T.range (pa_cons (pe_op op_add (pe_callB (r := rLen K) len_seq (by rfl) T.len PySem.boot_len (pa_cons (pv 0) pa_nil)) (pe_callB (r := rLen K) len_seq (by rfl) T.len PySem.boot_len (pa_cons (pv 1) pa_nil))) pa_nil)) (blkOk_by (N := n_lmult) (sc := defScope sLMult) (by decide +kernel)) (fun _ _ _ _ _ => pg_name (i := 5) sc_lmult.nd rfl (Or.inl rfl)) (fun _ _ _ _ _ => pts_nil) (fun _ _ _ _ _ => pe_int))
      (pss_cons (ps_for PassesOwn.never rfl (pi_range1 (by rfl) T.range (pa_cons (pe_callB (r := rLen K) len_seq (by rfl) T.len PySem.boot_len (pa_cons (pv 0) pa_nil)) pa_nil)) (pg_name (i := 3) sc_lmult.nd rfl (Or.inl rfl)) (pss_one (ps_for PassesOwn.never rfl (pi_range1 (by rfl) T.range (pa_cons (pe_callB (r := rLen K) len_seq (by rfl) T.len PySem.boot_len (pa_cons (pv 1) pa_nil)) pa_nil)) (pg_name (i := 4) sc_lmult.nd rfl (Or.inl rfl)) (pss_one (ps_asg (pe_op op_add (pe_ix (r := rIxL K) ix_list (pv 2) (pe_op op_add (pv 3) (pv 4)) (fun _ _ => rfl)) (pe_op op_mul (pe_ix (r := rIxT K) ix_tup (pv 0) (pv 3) (fun _ _ => rfl)) (pe_ix (r := rIxT K) ix_tup (pv 1) (pv 4) (fun _ _ => rfl)))) (pg_sub (pv 2) (pe_op op_add (pv 3) (pv 4)) set_list (fun _ => rfl)))))))
      (pss_one (ps_ret (pe_has H_law_trim (hr.mono (by decide)) (by rfl) (pa_cons (pv 2) pa_nil)))))), ?_⟩
      refine seq_of (asg_of ?_)
      refine lcR (n := ((a.length + b.length : Nat) : Int)) (fun i y => y = .int 0) (fun R r => ⟨_, rfl, ta, _, rfl, Or.inr sa, _, rfl, tb, _, rfl, Or.inr sb, _, _, rfl, rfl, ?_⟩) (by omega) (by omega) (fun x => rfl) (fun i H3 hi sm Q' q' => q' _ _ rfl (Same.refl _)) (fun D ys H2 hD s2 hy e1 e2 => ?_)
      · rw [List.length_map, List.length_map]
        exact r H (Same.refl _)
      have ey := vals_zero (n := a.length + b.length) (by omega) e2
      rw [ey] at hy
      generalize hN : a.length + b.length = N at hy
      have F0 : Found H D N (cv a b 0) H2 := ⟨hD, s2, hy⟩
      refine ⟨_, rfl, ta, _, rfl, Or.inr (same_sqT s2 sa), ?_⟩
      rw [List.length_map]
      refine ⟨((a.length : Nat) : Int), rfl, by omega, by omega, for_range (lo := 0) (n := a.length) (fun k σ H' => ∃ x y : Option V, σ = [some (.ref ta), some (.ref tb), some (.ref D), x, y, none] ∧ Found H D N (cv a b k) H') ⟨none, none, rfl, F0⟩ ?_ ?_⟩
      · rintro k σ H' hk ⟨x, y, rfl, F1⟩
        have e0 : (0 : Int) + (k : Int) = ((k : Nat) : Int) := by omega
        rw [e0]
        have hnb := ba a[k] (List.getElem_mem hk)
        refine ⟨_, rfl, tb, _, rfl, Or.inr (same_sqT F1.same sb), ?_⟩
        rw [List.length_map]
        refine ⟨((b.length : Nat) : Int), rfl, by omega, by omega, for_range (lo := 0) (n := b.length) (fun j σ H' => ∃ y : Option V, σ = [some (.ref ta), some (.ref tb), some (.ref D), some (.int (k : Nat)), y, none] ∧ Found H D N (rowAdd (cv a b k) k a[k] b j) H') ⟨y, rfl, by rw [rowAdd_zero]; exact F1⟩ ?_ ?_⟩
        · rintro j σ H' hj ⟨y, rfl, F4⟩
          have e3 : (0 : Int) + (j : Int) = ((j : Nat) : Int) := by omega
          rw [e3]
          have hkj : k + j < N := by omega
          have e1 : ((k : Nat) : Int) + ((j : Nat) : Int) = ((k + j : Nat) : Int) := by omega
          refine ⟨_, rfl, _, rfl, _, rfl, _, _, rfl, rfl, D, _, _, V.int (rowAdd (cv a b k) k a[k] b j (k + j)), rfl, rfl, SqL.of F4.held, ?_, _, rfl, _, rfl, ta, _, _, V.int a[k], rfl, rfl, same_sqT F4.same sa, atI_nat (by simp [hk]), _, rfl, _, rfl, tb, _, _, V.int b[j], rfl, rfl, same_sqT F4.same sb, atI_nat (by simp [hj]), _, _, rfl, rfl, Or.inl (by omega), _, _, rfl, rfl, ?_⟩
          · rw [e1]
            exact atI_nat (by rw [List.getElem?_map, lst_at hkj]; rfl)
          · refine ⟨_, rfl, _, rfl, _, rfl, _, _, rfl, rfl, D, _, _, k + j, rfl, rfl, F4.held, ?_, ⟨_, rfl, F4.put fun i hi => ?_⟩⟩
            · rw [e1, List.length_map, lst_len]
              unfold ixN
              rw [if_pos (by omega),
                    if_pos (by omega)]
              rfl
            · rw [rowAdd_step, List.getD_eq_getElem?_getD, List.getElem?_eq_getElem hj]
              rfl
        · rintro σ H' ⟨y, rfl, F4⟩
          refine ⟨_, _, rfl, ?_⟩
          have : cv a b (k + 1) = rowAdd (cv a b k) k a[k] b b.length := by
            show rowAdd (cv a b k) k (a.getD k 0) b b.length = _
            rw [List.getD_eq_getElem?_getD, List.getElem?_eq_getElem hk]
            rfl
          rw [this]
          exact F4
      · rintro σ H' ⟨x, y, rfl, F1⟩
        refine ⟨_, rfl, D, _, rfl, SqL.of F1.held, by rw [lst_len]; omega, fun p H4 s4 tp => q p H4 (F1.same.trans s4) ?_⟩
        unfold mulL
        rw [hN]
        exact tp
    · refine ⟨_, (pss_cons (ps_setLc (i := 2) (own := [("_law_turn", 5)]) (g := gName 5) (tt := tYes) rfl sc_lmult.nd rfl rfl (sw_true rfl rfl rfl (by decide +kernel)) (pi_range1 (by rfl) T.range (pa_cons (pe_op op_add (pe_callB (r := rLen K) len_seq (by rfl) T.len PySem.boot_len (pa_cons (pv 0) pa_nil)) (pe_callB (r := rLen K) len_seq (by rfl) T.len PySem.boot_len (pa_cons (pv 1) pa_nil))) pa_nil)) (blkOk_by (N := n_lmult) (sc := defScope sLMult) (by decide +kernel)) (fun _ _ _ _ _ => pg_name (i := 5) sc_lmult.nd rfl (Or.inl rfl)) (fun _ _ _ _ _ => pts_nil) (fun _ _ _ _ _ => pe_int))
      (pss_cons (ps_for PassesOwn.never rfl (pi_range1 (by rfl) T.range (pa_cons (pe_callB (r := rLen K) len_seq (by rfl) T.len PySem.boot_len (pa_cons (pv 0) pa_nil)) pa_nil)) (pg_name (i := 3) sc_lmult.nd rfl (Or.inl rfl)) (pss_one (ps_for PassesOwn.never rfl (pi_range1 (by rfl) T.range (pa_cons (pe_callB (r := rLen K) len_seq (by rfl) T.len PySem.boot_len (pa_cons (pv 1) pa_nil)) pa_nil)) (pg_name (i := 4) sc_lmult.nd rfl (Or.inl rfl)) (pss_one (ps_asg (pe_op op_add (pe_ix (r := rIxL K) ix_list (pv 2) (pe_op op_add (pv 3) (pv 4)) (fun _ _ => rfl)) (pe_op op_mul (pe_ix (r := rIxT K) ix_tup (pv 0) (pv 3) (fun _ _ => rfl)) (pe_ix (r := rIxL K) ix_list (pv 1) (pv 4) (fun _ _ => rfl)))) (pg_sub (pv 2) (pe_op op_add (pv 3) (pv 4)) set_list (fun _ => rfl)))))))
      (pss_one (ps_ret (pe_has H_law_trim (hr.mono (by decide)) (by rfl) (pa_cons (pv 2) pa_nil)))))), ?_⟩
      refine seq_of (asg_of ?_)
      refine lcR (n := ((a.length + b.length : Nat) : Int)) (fun i y => y = .int 0) (fun R r => ⟨_, rfl, ta, _, rfl, Or.inr sa, _, rfl, tb, _, rfl, Or.inl sb, _, _, rfl, rfl, ?_⟩) (by omega) (by omega) (fun x => rfl) (fun i H3 hi sm Q' q' => q' _ _ rfl (Same.refl _)) (fun D ys H2 hD s2 hy e1 e2 => ?_)
      · rw [List.length_map, List.length_map]
        exact r H (Same.refl _)
      have ey := vals_zero (n := a.length + b.length) (by omega) e2
      rw [ey] at hy
      generalize hN : a.length + b.length = N at hy
      have F0 : Found H D N (cv a b 0) H2 := ⟨hD, s2, hy⟩
      refine ⟨_, rfl, ta, _, rfl, Or.inr (same_sqT s2 sa), ?_⟩
      rw [List.length_map]
      refine ⟨((a.length : Nat) : Int), rfl, by omega, by omega, for_range (lo := 0) (n := a.length) (fun k σ H' => ∃ x y : Option V, σ = [some (.ref ta), some (.ref tb), some (.ref D), x, y, none] ∧ Found H D N (cv a b k) H') ⟨none, none, rfl, F0⟩ ?_ ?_⟩
      · rintro k σ H' hk ⟨x, y, rfl, F1⟩
        have e0 : (0 : Int) + (k : Int) = ((k : Nat) : Int) := by omega
        rw [e0]
        have hnb := ba a[k] (List.getElem_mem hk)
        refine ⟨_, rfl, tb, _, rfl, Or.inl (F1.same.seq sb), ?_⟩
        rw [List.length_map]
        refine ⟨((b.length : Nat) : Int), rfl, by omega, by omega, for_range (lo := 0) (n := b.length) (fun j σ H' => ∃ y : Option V, σ = [some (.ref ta), some (.ref tb), some (.ref D), some (.int (k : Nat)), y, none] ∧ Found H D N (rowAdd (cv a b k) k a[k] b j) H') ⟨y, rfl, by rw [rowAdd_zero]; exact F1⟩ ?_ ?_⟩
        · rintro j σ H' hj ⟨y, rfl, F4⟩
          have e3 : (0 : Int) + (j : Int) = ((j : Nat) : Int) := by omega
          rw [e3]
          have hkj : k + j < N := by omega
          have e1 : ((k : Nat) : Int) + ((j : Nat) : Int) = ((k + j : Nat) : Int) := by omega
          refine ⟨_, rfl, _, rfl, _, rfl, _, _, rfl, rfl, D, _, _, V.int (rowAdd (cv a b k) k a[k] b j (k + j)), rfl, rfl, SqL.of F4.held, ?_, _, rfl, _, rfl, ta, _, _, V.int a[k], rfl, rfl, same_sqT F4.same sa, atI_nat (by simp [hk]), _, rfl, _, rfl, tb, _, _, V.int b[j], rfl, rfl, F4.same.seq sb, atI_nat (by simp [hj]), _, _, rfl, rfl, Or.inl (by omega), _, _, rfl, rfl, ?_⟩
          · rw [e1]
            exact atI_nat (by rw [List.getElem?_map, lst_at hkj]; rfl)
          · refine ⟨_, rfl, _, rfl, _, rfl, _, _, rfl, rfl, D, _, _, k + j, rfl, rfl, F4.held, ?_, ⟨_, rfl, F4.put fun i hi => ?_⟩⟩
            · rw [e1, List.length_map, lst_len]
              unfold ixN
              rw [if_pos (by omega),
                    if_pos (by omega)]
              rfl
            · rw [rowAdd_step, List.getD_eq_getElem?_getD, List.getElem?_eq_getElem hj]
              rfl
        · rintro σ H' ⟨y, rfl, F4⟩
          refine ⟨_, _, rfl, ?_⟩
          have : cv a b (k + 1) = rowAdd (cv a b k) k a[k] b b.length := by
            show rowAdd (cv a b k) k (a.getD k 0) b b.length = _
            rw [List.getD_eq_getElem?_getD, List.getElem?_eq_getElem hk]
            rfl
          rw [this]
          exact F4
      · rintro σ H' ⟨x, y, rfl, F1⟩
        refine ⟨_, rfl, D, _, rfl, SqL.of F1.held, by rw [lst_len]; omega, fun p H4 s4 tp => q p H4 (F1.same.trans s4) ?_⟩
        unfold mulL
        rw [hN]
        exact tp
    · refine ⟨_, (pss_cons (ps_setLc (i := 2) (own := [("_law_turn", 5)]) (g := gName 5) (tt := tYes) rfl sc_lmult.nd rfl rfl (sw_true rfl rfl rfl (by decide +kernel)) (pi_range1 (by rfl) T.range (pa_cons (pe_op op_add (pe_callB (r := rLen K) len_seq (by rfl) T.len PySem.boot_len (pa_cons (pv 0) pa_nil)) (pe_callB (r := rLen K) len_seq (by rfl) T.len PySem.boot_len (pa_cons (pv 1) pa_nil))) pa_nil)) (blkOk_by (N := n_lmult) (sc := defScope sLMult) (by decide +kernel)) (fun _ _ _ _ _ => pg_name (i := 5) sc_lmult.nd rfl (Or.inl rfl)) (fun _ _ _ _ _ => pts_nil) (fun _ _ _ _ _ => pe_int))
      (pss_cons (ps_for PassesOwn.never rfl (pi_range1 (by rfl) T.range (pa_cons (pe_callB (r := rLen K) len_seq (by rfl) T.len PySem.boot_len (pa_cons (pv 0) pa_nil)) pa_nil)) (pg_name (i := 3) sc_lmult.nd rfl (Or.inl rfl)) (pss_one (ps_for PassesOwn.never rfl (pi_range1 (by rfl) T.range (pa_cons (pe_callB (r := rLen K) len_seq (by rfl) T.len PySem.boot_len (pa_cons (pv 1) pa_nil)) pa_nil)) (pg_name (i := 4) sc_lmult.nd rfl (Or.inl rfl)) (pss_one (ps_asg (pe_op op_add (pe_ix (r := rIxL K) ix_list (pv 2) (pe_op op_add (pv 3) (pv 4)) (fun _ _ => rfl)) (pe_op op_mul (pe_ix (r := rIxL K) ix_list (pv 0) (pv 3) (fun _ _ => rfl)) (pe_ix (r := rIxL K) ix_list (pv 1) (pv 4) (fun _ _ => rfl)))) (pg_sub (pv 2) (pe_op op_add (pv 3) (pv 4)) set_list (fun _ => rfl)))))))
      (pss_one (ps_ret (pe_has H_law_trim (hr.mono (by decide)) (by rfl) (pa_cons (pv 2) pa_nil)))))), ?_⟩
      refine seq_of (asg_of ?_)
      refine lcR (n := ((a.length + b.length : Nat) : Int)) (fun i y => y = .int 0) (fun R r => ⟨_, rfl, ta, _, rfl, Or.inl sa, _, rfl, tb, _, rfl, Or.inl sb, _, _, rfl, rfl, ?_⟩) (by omega) (by omega) (fun x => rfl) (fun i H3 hi sm Q' q' => q' _ _ rfl (Same.refl _)) (fun D ys H2 hD s2 hy e1 e2 => ?_)
      · rw [List.length_map, List.length_map]
        exact r H (Same.refl _)
      have ey := vals_zero (n := a.length + b.length) (by omega) e2
      rw [ey] at hy
      generalize hN : a.length + b.length = N at hy
      have F0 : Found H D N (cv a b 0) H2 := ⟨hD, s2, hy⟩
      refine ⟨_, rfl, ta, _, rfl, Or.inl (s2.seq sa), ?_⟩
      rw [List.length_map]
      refine ⟨((a.length : Nat) : Int), rfl, by omega, by omega, for_range (lo := 0) (n := a.length) (fun k σ H' => ∃ x y : Option V, σ = [some (.ref ta), some (.ref tb), some (.ref D), x, y, none] ∧ Found H D N (cv a b k) H') ⟨none, none, rfl, F0⟩ ?_ ?_⟩
      · rintro k σ H' hk ⟨x, y, rfl, F1⟩
        have e0 : (0 : Int) + (k : Int) = ((k : Nat) : Int) := by omega
        rw [e0]
        have hnb := ba a[k] (List.getElem_mem hk)
        refine ⟨_, rfl, tb, _, rfl, Or.inl (F1.same.seq sb), ?_⟩
        rw [List.length_map]
        refine ⟨((b.length : Nat) : Int), rfl, by omega, by omega, for_range (lo := 0) (n := b.length) (fun j σ H' => ∃ y : Option V, σ = [some (.ref ta), some (.ref tb), some (.ref D), some (.int (k : Nat)), y, none] ∧ Found H D N (rowAdd (cv a b k) k a[k] b j) H') ⟨y, rfl, by rw [rowAdd_zero]; exact F1⟩ ?_ ?_⟩
        · rintro j σ H' hj ⟨y, rfl, F4⟩
          have e3 : (0 : Int) + (j : Int) = ((j : Nat) : Int) := by omega
          rw [e3]
          have hkj : k + j < N := by omega
          have e1 : ((k : Nat) : Int) + ((j : Nat) : Int) = ((k + j : Nat) : Int) := by omega
          refine ⟨_, rfl, _, rfl, _, rfl, _, _, rfl, rfl, D, _, _, V.int (rowAdd (cv a b k) k a[k] b j (k + j)), rfl, rfl, SqL.of F4.held, ?_, _, rfl, _, rfl, ta, _, _, V.int a[k], rfl, rfl, F4.same.seq sa, atI_nat (by simp [hk]), _, rfl, _, rfl, tb, _, _, V.int b[j], rfl, rfl, F4.same.seq sb, atI_nat (by simp [hj]), _, _, rfl, rfl, Or.inl (by omega), _, _, rfl, rfl, ?_⟩
          · rw [e1]
            exact atI_nat (by rw [List.getElem?_map, lst_at hkj]; rfl)
          · refine ⟨_, rfl, _, rfl, _, rfl, _, _, rfl, rfl, D, _, _, k + j, rfl, rfl, F4.held, ?_, ⟨_, rfl, F4.put fun i hi => ?_⟩⟩
            · rw [e1, List.length_map, lst_len]
              unfold ixN
              rw [if_pos (by omega),
                    if_pos (by omega)]
              rfl
            · rw [rowAdd_step, List.getD_eq_getElem?_getD, List.getElem?_eq_getElem hj]
              rfl
        · rintro σ H' ⟨y, rfl, F4⟩
          refine ⟨_, _, rfl, ?_⟩
          have : cv a b (k + 1) = rowAdd (cv a b k) k a[k] b b.length := by
            show rowAdd (cv a b k) k (a.getD k 0) b b.length = _
            rw [List.getD_eq_getElem?_getD, List.getElem?_eq_getElem hk]
            rfl
          rw [this]
          exact F4
      · rintro σ H' ⟨x, y, rfl, F1⟩
        refine ⟨_, rfl, D, _, rfl, SqL.of F1.held, by rw [lst_len]; omega, fun p H4 s4 tp => q p H4 (F1.same.trans s4) ?_⟩
        unfold mulL
        rw [hN]
        exact tp
end
end K6

namespace K6
open PySem L2 Ur
abbrev sLRest : Stmt := top 34
abbrev sShared : Stmt := top 36
abbrev sFactors : Stmt := top 37
/-- one step of the law's own division -/
def ownF (r two : List Int) (p : Nat) (i : Nat) : Int := r.getD i 0 * two.getD (two.length - 1) 0 * two.getD (two.length - 1) 0 - r.getD (r.length - 1) 0 * two.getD (two.length - 1) 0 * shf p (gd two) i
theorem gd_short {l : List Int} (i : Nat) : gd l i = (gAll l : Int) * gd (shortL l) i := short_mul
theorem own_pr {b t : List Int} (hb : Tr b) (b0 : b ≠ []) (ht : Tr t) (hl : b.length ≤ t.length) : Pr (trimL (lst t.length (ownF (shortL t) (shortL b) (t.length - b.length)))) (stepL b t) := by
  have p0 : 0 < b.length := List.length_pos_iff.mpr b0
  have t0 : t ≠ [] := fun z => by
    rw [z] at hl
    exact absurd p0 (Nat.not_lt_of_le hl)
  have hgt := tr_pos ht t0
  have hgb := tr_pos hb b0
  have nb := last_ne hb b0
  obtain ⟨g, hg, f1, f2⟩ := st_fac (rl := t.getD (t.length - 1) 0) nb
  have s1 := step_sh (o := b) (rest := t) p0 hl
  have e1 : b.getD (b.length - 1) 0 = (gAll b : Int) * (shortL b).getD ((shortL b).length - 1) 0 := by rw [short_len]; exact short_mul
  have e2 : t.getD (t.length - 1) 0 = (gAll t : Int) * (shortL t).getD ((shortL t).length - 1) 0 := by rw [short_len]; exact short_mul
  unfold ownF
  generalize stM (t.getD (t.length - 1) 0) (b.getD (b.length - 1) 0) = M at *
  generalize stS (t.getD (t.length - 1) 0) (b.getD (b.length - 1) 0) = S at *
  generalize t.getD (t.length - 1) 0 = tl at *
  generalize b.getD (b.length - 1) 0 = bl at *
  generalize (shortL b).getD ((shortL b).length - 1) 0 = tp at *
  generalize (shortL t).getD ((shortL t).length - 1) 0 = rl at *
  generalize hp : t.length - b.length = p at *
  have hgb' : (0 : Int) < (gAll b : Int) := by omega
  have hgt' : (0 : Int) < (gAll t : Int) := by omega
  have tp0 : tp ≠ 0 := fun z => nb (by rw [e1, z, Int.mul_zero])
  have a1 : (bl.natAbs : Int) = (gAll b : Int) * (tp.natAbs : Int) := by
    rw [e1, Int.natAbs_mul, Int.natCast_mul, Int.natAbs_natCast]
  have a2 : bl.sign = tp.sign := by
    rw [e1, Int.sign_mul, Int.sign_eq_one_of_pos hgb', Int.one_mul]
  have a3 : (tp.natAbs : Int) * tp.sign = tp := by
    rw [Int.mul_comm]
    exact Int.sign_mul_natAbs tp
  have a4 : (tp.natAbs : Int) * (tp.natAbs : Int) = tp * tp := Int.natAbs_mul_self
  have hat : 0 < (tp.natAbs : Int) := by omega
  refine ⟨(gAll t : Int) * (gAll b : Int), (tp.natAbs : Int) * g, Int.mul_pos hgt' hgb', Int.mul_pos hat hg, fun i => ?_⟩
  have x1 : t.getD i 0 = (gAll t : Int) * (shortL t).getD i 0 := short_mul
  have x2 : shf p (gd b) i = (gAll b : Int) * shf p (gd (shortL b)) i := by
    unfold shf
    split
    · exact gd_short _
    · simp
  rw [trim_getD, lst_getD, s1 i]
  by_cases h : i < t.length
  · rw [if_pos h, x1, x2]
    generalize (shortL t).getD i 0 = x at *
    generalize shf p (gd (shortL b)) i = y at *
    generalize (gAll t : Int) = gt at *
    generalize (gAll b : Int) = gb at *
    have k1 : (tp.natAbs : Int) * g * (gt * x * M) = gt * gb * (x * tp * tp) := by
      calc (tp.natAbs : Int) * g * (gt * x * M) = (tp.natAbs : Int) * gt * x * (g * M) := by grind
        _ = (tp.natAbs : Int) * gt * x * (gb * (tp.natAbs : Int)) := by rw [f1, a1]
        _ = gt * gb * x * ((tp.natAbs : Int) * (tp.natAbs : Int)) := by grind
        _ = gt * gb * (x * tp * tp) := by rw [a4]; grind
    have k2 : (tp.natAbs : Int) * g * (S * (gb * y)) = gt * gb * (rl * tp * y) := by
      calc (tp.natAbs : Int) * g * (S * (gb * y)) = (tp.natAbs : Int) * gb * y * (g * S) := by grind
        _ = (tp.natAbs : Int) * gb * y * (gt * rl * tp.sign) := by rw [f2, a2, e2]
        _ = gt * gb * rl * y * ((tp.natAbs : Int) * tp.sign) := by grind
        _ = gt * gb * (rl * tp * y) := by rw [a3]; grind
    rw [Int.mul_sub, Int.mul_sub, k1, k2]
  · rw [if_neg h, getD_none (l := t) (by omega)]
    have : shf p (gd b) i = 0 := by
      unfold shf
      rw [if_pos (by omega)]
      exact getD_none (by omega)
    rw [this]
    simp
theorem own_bt {r two : List Int} {X y N p : Nat} (hr : Bt X r) (ht : Bt y two) : Bt (X + 2 * y + 1) (lst N (ownF r two p)) := fun z hz => by
  unfold lst at hz
  obtain ⟨i, _, rfl⟩ := List.mem_map.mp hz
  unfold ownF
  have b1 := hr.get i
  have b2 := hr.get (r.length - 1)
  have b3 := ht.get (two.length - 1)
  have b4 : (shf p (gd two) i).natAbs < 2 ^ y := by
    unfold shf
    split
    · exact ht.get _
    · exact Nat.pow_pos (by decide)
  generalize r.getD i 0 = x at *
  generalize r.getD (r.length - 1) 0 = rl at *
  generalize two.getD (two.length - 1) 0 = tp at *
  generalize shf p (gd two) i = w at *
  have e : 2 ^ (X + 2 * y) = 2 ^ X * 2 ^ y * 2 ^ y := by rw [← Nat.pow_add, ← Nat.pow_add]; congr 1; omega
  have c1 : (x * tp * tp).natAbs < 2 ^ (X + 2 * y) := by
    rw [Int.natAbs_mul, Int.natAbs_mul, e]
    exact Nat.mul_lt_mul'' (Nat.mul_lt_mul'' b1 b3) b3
  have c2 : (rl * tp * w).natAbs < 2 ^ (X + 2 * y) := by
    rw [Int.natAbs_mul, Int.natAbs_mul, e]
    exact Nat.mul_lt_mul'' (Nat.mul_lt_mul'' b2 b3) b4
  rw [Nat.pow_succ]
  omega
theorem less_at {two : List Int} {c : Int} {p i : Nat} (h : i < p + two.length) : ((List.replicate p (0 : Int)).map V.int ++ (two.map fun n => c * n).map V.int)[i]? = some (V.int (c * shf p (gd two) i)) := by
  unfold shf
  by_cases hi : p ≤ i
  · rw [List.getElem?_append_right (by simpa using hi), if_pos hi]
    simp only [List.length_map, List.length_replicate, List.getElem?_map]
    rw [List.getElem?_eq_getElem (by omega)]
    show some (V.int (c * _)) = some (V.int (c * two.getD (i - p) 0))
    rw [List.getD_eq_getElem?_getD, List.getElem?_eq_getElem (by omega)]
    rfl
  · rw [List.getElem?_append_left (by simp; omega), if_neg hi, List.getElem?_map, List.getElem?_replicate, if_pos (by omega), Int.mul_zero]
    rfl
theorem map_lst (l : List Int) (f : Int → Int) : l.map f = (List.range l.length).map fun i => f (l.getD i 0) := by
  apply List.ext_getElem?
  intro i
  rw [List.getElem?_map,
        List.getElem?_map]
  by_cases hi : i < l.length
  · rw [List.getElem?_range hi, List.getElem?_eq_getElem hi, Option.map_some, Option.map_some, List.getD_eq_getElem?_getD, List.getElem?_eq_getElem hi]
    rfl
  · rw [List.getElem?_eq_none (by omega), List.getElem?_eq_none (by rw [List.length_range]; omega)]
    rfl
def spRest (K : PySem.W.Frag) : Sp := fun vs H Q _ => ∃ (v v' : V) (a b R : List Int) (x y : Nat), vs = [v, v'] ∧ Tp K H v (shortL a) ∧ Tp K H v' (shortL b) ∧ DOk a b R x y ∧ ∀ (p : V) (H' : Hp), Same H H' → Tp K H' p (shortL R) → Q p H'
section
variable {P : Program} {w : World} {K :
      PySem.W.Frag} {mg : Str → Option Value} {base : Heap}
abbrev n_lrest : List Str := ["_law_one", "_law_two", "_law_rest_here", "_law_top", "_law_lead", "_law_shift", "_law_less", "_law_turn", "_law_each", "_law_k"]
theorem sc_lrest : FnScope n_lrest p_lot (defScope sLRest) := ⟨rfl, rfl, rfl, by decide +kernel, rfl, by decide +kernel, by decide +kernel⟩
theorem ok_lrest {f : Addr} {fd : FuncData} (F : Fun K "_law_rest" "_law_rest" sLRest f fd) (T : Bl mg) (H_law_short : Has P w K mg base "_law_short" p_some 2 (spLSh K)) : FnOk P w K mg base CX0 3 f fd p_lot (spRest K) := by
  refine F.ok sc_lrest (fun vs H Q E h => ?_) (fun cdv A outer s H vs Q E hr h => ?_)
  · obtain ⟨_, _, _, _, _, _, _, rfl, _⟩ := h
    rfl
  · obtain ⟨va, vb, a, b, R, x, y, rfl, ⟨ta, rfl, sa⟩, ⟨tb, rfl, sb⟩, DK, q⟩ := h
    refine ⟨_, (pss_cons (ps_asg (pe_tup (pa_cons (pe_has H_law_short (hr.mono (by decide)) (by rfl) (pa_cons (pv 0) pa_nil)) (pa_cons (pe_ix (r := rIxT K) ix_tup (pv 1) (pe_un un_neg pe_int) (fun _ _ => rfl)) pa_nil))) (pg_tup rfl (pgs_cons (pg_name (i := 2) sc_lrest.nd rfl (Or.inr rfl)) (pgs_cons (pg_name (i := 3) sc_lrest.nd rfl (Or.inr rfl)) pgs_nil))))
      (pss_cons (ps_while PassesOwn.never (pt_cmpR op_ge (pe_callB (r := rLen K) len_seq (by rfl) T.len PySem.boot_len (pa_cons (pv 2) pa_nil)) (pe_callB (r := rLen K) len_seq (by rfl) T.len PySem.boot_len (pa_cons (pv 1) pa_nil)) (nomark _)) (pss_cons (ps_asg (pe_tup (pa_cons (pe_op op_mulW (pe_ix (r := rIxT K) ix_tup (pv 2) (pe_un un_neg pe_int) (fun _ _ => rfl)) (pv 3)) (pa_cons (pe_op op_sub (pe_callB (r := rLen K) len_seq (by rfl) T.len PySem.boot_len (pa_cons (pv 2) pa_nil)) (pe_callB (r := rLen K) len_seq (by rfl) T.len PySem.boot_len (pa_cons (pv 1) pa_nil))) pa_nil))) (pg_tup rfl (pgs_cons (pg_name (i := 4) sc_lrest.nd rfl (Or.inr rfl)) (pgs_cons (pg_name (i := 5) sc_lrest.nd rfl (Or.inl rfl)) pgs_nil))))
      (pss_cons (ps_set (i := 6) sc_lrest.nd rfl (Or.inr rfl) (pe_op op_cat (pe_lc (own := [("_law_turn", 7)]) (g := gName 7) (tt := tYes) rfl sc_lrest.nd (pi_range1 (by rfl) T.range (pa_cons (pv 5) pa_nil)) (blkOk_by (N := n_lrest) (sc := defScope sLRest) (by decide +kernel)) (fun _ _ _ _ _ => pg_name (i := 7) sc_lrest.nd rfl (Or.inl rfl)) (fun _ _ _ _ _ => pts_nil) (fun _ _ _ _ _ => pe_int)) (pe_lc (own := [("_law_each", 8)]) (g := gName 8) (tt := tYes) rfl sc_lrest.nd (pi_tup (pv 1)) (blkOk_by (N := n_lrest) (sc := defScope sLRest) (by decide +kernel)) (fun _ _ _ _ _ => pg_name (i := 8) sc_lrest.nd rfl (Or.inl rfl)) (fun _ _ _ _ _ => pts_nil) (fun _ _ _ _ _ => (pe_op op_mulW (pv 4) (pv 8))))))
      (pss_one (ps_set (i := 2) sc_lrest.nd rfl (Or.inr rfl) (pe_has H_law_short (hr.mono (by decide)) (by rfl) (pa_cons (pe_lc (own := [("_law_k", 9)]) (g := gName 9) (tt := tYes) rfl sc_lrest.nd (pi_range1 (by rfl) T.range (pa_cons (pe_callB (r := rLen K) len_seq (by rfl) T.len PySem.boot_len (pa_cons (pv 2) pa_nil)) pa_nil)) (blkOk_by (N := n_lrest) (sc := defScope sLRest) (by decide +kernel)) (fun _ _ _ _ _ => pg_name (i := 9) sc_lrest.nd rfl (Or.inl rfl)) (fun _ _ _ _ _ => pts_nil) (fun _ _ _ _ _ => (pe_op op_sub (pe_op op_mulW (pe_op op_mulW (pe_ix (r := rIxT K) ix_tup (pv 2) (pv 9) (fun _ _ => rfl)) (pv 3)) (pv 3)) (pe_ix (r := rIxL K) ix_list (pv 6) (pv 9) (fun _ _ => rfl))))) pa_nil)))))))
      (pss_one (ps_ret (pv 2))))), ?_⟩
    have la := DK.la
    have lb := DK.lo
    have hsa := DK.rwa.short
    have hsb := DK.rwo.short
    have sb0 : shortL b ≠ [] := fun z => DK.o0 (short_nil.mp z)
    have h0 : 0 < b.length := List.length_pos_iff.mpr DK.o0
    obtain ⟨tp, etp⟩ : ∃ z, z = (shortL b).getD ((shortL b).length - 1) 0 := ⟨_, rfl⟩
    have atb := at_last sb0
    rw [← etp] at atb
    have btp : tp.natAbs < 2 ^ 9000 := by rw [etp]; exact hsb.bt.get _
    refine ⟨_, rfl, ta, shortL a, rfl, Or.inr sa, by rw [short_len]; omega, fun hne => ?_, fun p1 H1 s1 tp1 => ?_⟩
    · rw [trim_id hsa.tr] at hne
      exact gAll_lt hsa.bt hsa.tr hne
    rw [trim_id hsa.tr, short_short DK.ta] at tp1
    refine ⟨_, rfl, _, rfl, tb, _, -1, V.int tp, rfl, rfl, same_sqT s1 sb, atb, by show 2 ≤ sizeLine; decide, fun p0 hp0 => ?_⟩
    have s01 := s1.trans (same_new (p := p0) (o := HO.tup [p1, V.int tp]) hp0)
    have tp2 := tp1.same (same_new (p := p0) (o := HO.tup [p1, V.int tp]) hp0)
    refine ⟨p0, _, rfl, SqT.of upd_same, rfl, _, _, rfl, _, _, rfl, rfl, ?_⟩
    generalize upd H1 p0 (.tup [p1, V.int tp]) = H2 at s01 tp2 ⊢
    refine ⟨fun k σ H' => ∃ (v2 : V) (t : List Int) (x4 x5 x6 x7 x8 x9 : Option V), k = t.length ∧ σ = [some (.ref ta), some (.ref tb), some v2, some (.int tp), x4, x5, x6, x7, x8, x9] ∧ Same H H' ∧ Tp K H' v2 (shortL t) ∧ Rm b t R ∧ Tr t ∧ t.length ≤ a.length ∧ Bt (limx x y a.length t.length) t, ⟨a.length, p1, a, none, none, none, none, none, none, rfl, rfl, s01, tp2, DK.rm, DK.ta, Nat.le_refl _, DK.ba.up (Nat.le_add_right _ _)⟩, ?_⟩
    clear tp1 tp2 s01 hp0 p0 s1 p1 H1 H2
    rintro k σ H0 ⟨v2, t, x4, x5, x6, x7, x8, x9, rfl, rfl, s0, ⟨t2, rfl, st2⟩, rm, Tt, lt, bt⟩
    have sb1 := same_sqT s0 sb
    refine ⟨_, rfl, t2, _, rfl, Or.inr st2, _, rfl, tb, _, rfl, Or.inr sb1, _, _, rfl, rfl, _, rfl, ?_⟩
    rw [List.length_map, List.length_map, short_len, short_len]
    refine ite2 (fun c
          => ?_) (fun c => ?_)
    · have hlen : b.length ≤ t.length := by have := of_decide_eq_true c; omega
      have t0 : t ≠ [] := fun z => by rw [z] at hlen; exact absurd h0 (Nat.not_lt_of_le hlen)
      have ss0 : shortL t ≠ [] := fun z => t0 (short_nil.mp z)
      have hX : limx x y a.length t.length + 2 * y + 1 ≤ 9000 := by
        have h1 := DK.h9
        have e : a.length + 1 - b.length = (a.length - b.length) + 1 := by omega
        have h3 : (a.length - t.length) * (y + 1) ≤ (a.length - b.length) * (y + 1) := Nat.mul_le_mul_right _ (by omega)
        rw [e, Nat.add_mul] at h1
        unfold limx
        omega
      have bst : Bt (limx x y a.length t.length) (shortL t) := bt.short Tt
      have bst9 : Bt 9000 (shortL t) := bst.up (by omega)
      have hless := step_less DK.o0 DK.to hlen
      have rm' := rm_next rm hlen
      have bt' := (step_bt DK.o0 DK.to hlen bt DK.bo).up (limx_up hless lt)
      obtain ⟨rl, erl⟩ : ∃ z, z = (shortL t).getD ((shortL t).length - 1) 0 := ⟨_, rfl⟩
      have att := at_last ss0
      rw [← erl] at att
      have brl : rl.natAbs < 2 ^ 9000 := by rw [erl]; exact bst9.get _
      have blead : (rl * tp).natAbs < 2 ^ (9000 + 9000) := wide_lt brl btp
      refine ⟨fun σ' H' => ∃ (v2 : V) (t' : List Int) (x4 x5 x6 x7 x8 x9 : Option V), t'.length < t.length ∧ σ' = [some (.ref ta), some (.ref tb), some v2, some (.int tp), x4, x5, x6, x7, x8, x9] ∧ Same H H' ∧ Tp K H' v2 (shortL t') ∧ Rm b t' R ∧ Tr t' ∧ t'.length ≤ a.length ∧ Bt (limx x y a.length t'.length) t', fun σ' H' h => ?_, ?_⟩
      · obtain ⟨v2, t', x4, x5, x6, x7, x8, x9, h1, h2, h3⟩ := h
        exact ⟨t'.length, h1, v2, t', x4, x5, x6, x7, x8, x9, rfl, h2, h3⟩
      refine ⟨_, rfl, _, rfl, t2, _, -1, V.int rl, rfl, rfl, st2, att, _, rfl, _, _, rfl, rfl, wide_mul (a := 9000) (b := 9000) brl btp (by decide) (by decide) (by decide), ?_⟩
      refine ⟨_, rfl, t2, _, rfl, Or.inr st2, _, rfl, tb, _, rfl, Or.inr sb1, _, _, rfl, rfl, by show 2 ≤ sizeLine; decide, fun p0 hp0 => ?_⟩
      rw [List.length_map, List.length_map, short_len, short_len]
      obtain ⟨p, hp⟩ : ∃ p : Nat, p = t.length - b.length := ⟨_, rfl⟩
      have ep : (t.length : Int) - (b.length : Int) = (p : Int) := by omega
      dsimp only
      rw [ep]
      have sn := same_new (p := p0) (o := HO.tup [V.int (rl * tp), .int (p : Nat)]) hp0
      refine ⟨p0, _, rfl, SqT.of upd_same, rfl, _, _, rfl, _, _, rfl, rfl, ?_⟩
      have st3 := same_sqT sn st2
      have sb3 := same_sqT sn sb1
      have s03 := s0.trans sn
      generalize upd H0 p0 (.tup [V.int (rl * tp), .int (p : Nat)]) = H1 at st3 sb3 s03 ⊢
      refine seq_of (asg_of ?_)
      unfold tOp
      dsimp only
      refine lcR (n := ((p : Nat) : Int)) (fun i y => y = .int 0) (fun R r => ⟨_, rfl, r _ (Same.refl _)⟩) (by omega) (by omega) (fun x => rfl) (fun i H3 hi sm Q' q' => q' _ _ rfl (Same.refl _)) (fun D ys H2 hD s2 hy e1 e2 => ?_)
      have ey := vals_zero (n := p) (by omega) e2
      have ez : (lst p fun _ => 0) = List.replicate p 0 := by
        unfold lst
        rw [List.map_const', List.length_range]
      rw [ey, ez] at hy
      refine lcT (K := K) (a := tb) (xs := (shortL b).map V.int) (fun i y => y = .int (rl * tp * (shortL b).getD i 0)) (fun R r => ⟨_, rfl, r⟩) (same_sqT s2 sb3) (by rw [List.length_map, short_len]; omega) (fun x => rfl) (fun i x H3 hi sm Q' q' => ?_) (fun D2 ys2 H3 hD2 s3 hy2 f1 f2 => ?_)
      · obtain ⟨z, hz, rfl⟩ := map_at hi
        refine ⟨_, rfl, _, rfl, _, _, rfl, rfl, wide_mul (a := 9000 + 9000) (b := 9000) blead (hsb.bt z (List.mem_of_getElem? hz)) (by decide) (by decide) (by decide), q' _ _ ?_ (Same.refl _)⟩
        rw [List.getD_eq_getElem?_getD, hz]
        rfl
      have ey2 := vals_map (f1.trans (List.length_map ..)) f2
      rw [← map_lst (shortL b) (fun n => rl * tp * n)] at ey2
      subst ey2
      refine ⟨D, D2, _, _, rfl, rfl, s3 _ _ hy, hy2, ?_, fun pc hpc => ?_⟩
      · rw [List.length_map, List.length_map, List.length_map, List.length_replicate, short_len]
        exact Nat.le_trans (by omega : p + b.length ≤ 20) (by decide)
      have sc := same_new (p := pc) (o := HO.lst ((List.replicate p (0 : Int)).map V.int ++ ((shortL b).map fun n => rl * tp * n).map V.int)) hpc
      have hpc2 : (upd H3 pc (.lst ((List.replicate p (0 : Int)).map V.int ++ ((shortL b).map fun n => rl * tp * n).map V.int))) pc = some (.lst ((List.replicate p (0 : Int)).map V.int ++ ((shortL b).map fun n => rl * tp * n).map V.int)) := upd_same
      have s24 := s2.trans (s3.trans sc)
      have st4 := same_sqT s24 st3
      have s04 := s03.trans s24
      generalize upd H3 pc (.lst ((List.replicate p (0 : Int)).map V.int ++ ((shortL b).map fun n => rl * tp * n).map V.int)) = H4 at hpc2 st4 s04 ⊢
      unfold gName tAsg tCall tCons tNil
      dsimp only
      refine lcR (n := ((t.length : Nat) : Int)) (fun i y => y = .int (ownF (shortL t) (shortL b) p i)) (fun R r => ⟨_, rfl, t2, _, rfl, Or.inr st4, by rw [List.length_map, short_len]; exact r _ (Same.refl _)⟩) (by omega) (by omega) (fun x => rfl) (fun i H5 hi sm Q' q' => ?_) (fun D3 ys3 H5 hD3 s5 hy3 g1 g2 => ?_)
      · have hit : i < (shortL t).length := by rw [short_len]; omega
        have e0 : (0 : Int) + (i : Int) = ((i : Nat) : Int) := by omega
        rw [e0]
        have bz := bst9 _ (List.getElem_mem hit)
        refine ⟨_, rfl, _, rfl, t2, _, _, V.int (shortL t)[i], rfl, rfl, same_sqT sm st4, atI_nat (by simp [hit]), _, rfl, _, _, rfl, rfl, wide_mul (a := 9000) (b := 9000) bz btp (by decide) (by decide) (by decide), _, rfl, _, _, rfl, rfl, wide_mul (a := 9000 + 9000) (b := 9000) (wide_lt bz btp) btp (by decide) (by decide) (by decide), _, rfl, _, rfl, pc, _, _, V.int (rl * tp * shf p (gd (shortL b)) i), rfl, rfl, SqL.of (sm _ _ hpc2), atI_nat (less_at (by rw [short_len]; omega)), _, _, rfl, rfl, q' _ _ ?_ (Same.refl _)⟩
        unfold ownF
        rw [← etp, ← erl, List.getD_eq_getElem?_getD, List.getElem?_eq_getElem hit]
        rfl
      have ey3 : ys3 = (lst t.length (ownF (shortL t) (shortL b) p)).map V.int := vals_map (by omega) g2
      subst ey3
      have obt := own_bt (N := t.length) (p := p) bst (DK.bo.short DK.to)
      have opr := (own_pr DK.to DK.o0 Tt hlen).short (trim_last _) (trim_last _)
      rw [← hp] at opr
      refine ⟨D3, _, rfl, Or.inl (SqL.of hy3), by rw [lst_len]; omega, fun hne => ?_, fun p5 H6 s6 tp6 => ?_⟩
      · rw [← trim_gAll]
        exact gAll_lt ((show Bt _ _ from fun z hz => obt z (trim_mem hz)).up hX) (trim_last _) hne
      rw [opr] at tp6
      exact ⟨p5, stepL b t, _, _, _, _, _, _, hless, rfl, s04.trans (s5.trans s6), tp6, rm', trim_last _, by omega, bt'⟩
    · have hlt : t.length < b.length := Nat.lt_of_not_le fun z => c (decide_eq_true (by omega))
      have er := rm_fun rm (.stop hlt)
      subst er
      exact ⟨_, rfl, q _ H0 s0 ⟨t2, rfl, st2⟩⟩
end
end K6

namespace K6
open PySem L2 Ur
theorem ec_lt {m : Nat} {a b g : List Int} (h : Ec m a b g) (b0 : b = []) : g = a := by
  cases h with
  | stop _ => rfl
  | step h _ _ _ _ _ => exact absurd b0 h
section
variable {P : Program} {w : World} {K :
      PySem.W.Frag} {mg : Str → Option Value} {base : Heap}
abbrev n_lshared : List Str := ["_law_one", "_law_two", "_law_each"]
theorem sc_lshared : FnScope n_lshared p_lot (defScope sShared) := ⟨rfl, rfl, rfl, by decide +kernel, rfl, by decide +kernel, by decide +kernel⟩
theorem ok_lshared {f : Addr} {fd : FuncData} (F : Fun K "_law_shared" "_law_shared" sShared f fd) (T : Bl mg) (H_law_short : Has P w K mg base "_law_short" p_some 2 (spLSh K)) (H_law_rest : Has P w K mg base "_law_rest" p_lot 3 (spRest K)) : FnOk P w K mg base CX0 4 f fd p_lot (spCF K) := by
  refine F.ok sc_lshared (fun vs H Q E h => ?_) (fun cdv A outer s H vs Q E hr h => ?_)
  · obtain ⟨_, _, _, _, _, _, rfl, _⟩ := h
    rfl
  · obtain ⟨va, vb, a, b, g, m, rfl, ⟨ta, rfl, sa⟩, ⟨tb, rfl, sb⟩, Ta, Tb, la, lb, ba, bb, hm, hE, q⟩ := h
    have hu : (A.deeper (PyProof.Rows.envOfC "_law_shared" (defScope sShared) s.heap.objs.size f cdv)).units + 64 < cLine := hr.units
    refine ⟨_, (pss_cons (ps_par (i := 0) (j := 1) rfl sc_lshared.nd rfl rfl (by decide) rfl rfl (pa_cons (pe_has H_law_short (hr.mono (by decide)) (by rfl) (pa_cons (pv 0) pa_nil)) (pa_cons (pe_has H_law_short (hr.mono (by decide)) (by rfl) (pa_cons (pv 1) pa_nil)) pa_nil)) (by rfl))
      (pss_cons (ps_while PassesOwn.never (pt_cmpR (op_neD hu) (pv 1) (pe_tup pa_nil) (nomark _)) (pss_one (ps_par (i := 0) (j := 1) rfl sc_lshared.nd rfl rfl (by decide) rfl rfl (pa_cons (pv 1) (pa_cons (pe_has H_law_rest (hr.mono (by decide)) (by rfl) (pa_cons (pv 0) (pa_cons (pv 1) pa_nil))) pa_nil)) (by rfl))))
      (pss_one (ps_ret (pe_ifExp ((pw_or (pt_cmpR (op_eqD hu) (pv 0) (pe_tup pa_nil) (nomark _)) (pw_or1 (pt_cmpR op_gt (pe_ix (r := rIxT K) ix_tup (pv 0) (pe_un un_neg pe_int) (fun _ _ => rfl)) pe_int (nomark _))))).pt (pv 0) (pe_callTy call_tuple_of (by rfl) T.tuple PyProof.Rows.boot_tuple (pa_cons (pe_lc (own := [("_law_each", 2)]) (g := gName 2) (tt := tYes) rfl sc_lshared.nd (pi_tup (pv 0)) (blkOk_by (N := n_lshared) (sc := defScope sShared) (by decide +kernel)) (fun _ _ _ _ _ => pg_name (i := 2) sc_lshared.nd rfl (Or.inl rfl)) (fun _ _ _ _ _ => pts_nil) (fun _ _ _ _ _ => (pe_op op_sub pe_int (pv 2)))) pa_nil))))))), ?_⟩
    have RA : RW a := ⟨la, Ta, ba⟩
    have RB : RW b := ⟨lb, Tb, bb⟩
    refine ⟨_, rfl, ta, a, rfl, Or.inr sa, by omega, fun hne => ?_, fun p1 H1 s1 tp1 => ⟨_, rfl, tb, b, rfl, Or.inr (same_sqT s1 sb), by omega, fun hne => ?_, fun p2 H2 s2 tp2 => ⟨_, _, rfl, ?_⟩⟩⟩
    · rw [trim_id Ta] at hne
      exact gAll_lt ba Ta hne
    · rw [trim_id Tb] at hne
      exact gAll_lt bb Tb hne
    rw [trim_id Ta] at tp1
    rw [trim_id Tb] at tp2
    refine ⟨fun k σ H' => ∃ (va vb : V) (a b : List Int), k = b.length ∧ σ = [some va, some vb, none] ∧ Same H H' ∧ Tp K H' va (shortL a) ∧ Tp K H' vb (shortL b) ∧ RW a ∧ RW b ∧ Ec m a b g, ⟨b.length, p1, p2, a, b, rfl, rfl, s1.trans s2, tp1.same s2, tp2, RA, RB, hE⟩, ?_⟩
    clear tp1 tp2 s1 s2 RA RB Ta Tb la lb ba bb hE sa sb p1 p2 H1 H2 ta tb a b
    rintro k σ H0 ⟨va, vb, a, b, rfl, rfl, s0, ta, tb, RA, RB, hE⟩
    refine ⟨_, rfl, by show 0 ≤ sizeLine; decide, fun pe hpe => ?_⟩
    have se := same_new (p := pe) (o := HO.tup []) hpe
    have te : Tp K (upd H0 pe (.tup [])) (.ref pe) [] := ⟨pe, rfl, SqT.of upd_same⟩
    have s01 := s0.trans se
    have ta1 := ta.same se
    have tb1 := tb.same se
    generalize upd H0 pe (.tup []) = H1 at te s01 ta1 tb1 ⊢
    refine ⟨_, _, tb1.dp, te.dp, shaped_ints _, shaped_ints _, _, rfl, ?_⟩
    rw [eqv_ints]
    refine ite2 (fun c
          => ?_) (fun c => ?_)
    · have hb0 : b ≠ [] := fun z => by
        subst z
        simp [shortL] at c
      cases hE with
      | stop _ => exact absurd rfl hb0
      | @step _ _ R _ x y b0 bx bY h9 r hE =>
        have DK : DOk a b R x y := ⟨b0, RA.tr, RB.tr, RA.few, RB.few, bx, bY, h9, r⟩
        refine ⟨fun σ' H' => ∃ (va vb : V) (a' b' : List Int), b'.length < b.length ∧ σ' = [some va, some vb, none] ∧ Same H H' ∧ Tp K H' va (shortL a') ∧ Tp K H' vb (shortL b') ∧ RW a' ∧ RW b' ∧ Ec m a' b' g, fun σ' H' h => ?_, ?_⟩
        · obtain ⟨va, vb, a', b', h1, h2, h3⟩ := h
          exact ⟨b'.length, h1, va, vb, a', b', rfl, h2, h3⟩
        · refine ⟨_, rfl, _, rfl, _, rfl, va, vb, a, b, R, x, y, rfl, ta1, tb1, DK, fun p H2 s2 tp => ⟨_, _, rfl, ?_⟩⟩
          have hlt := rm_lt r
          refine ⟨vb, p, b, shortL R, by rw [short_len]; exact hlt, rfl, s01.trans s2, tb1.same s2, ?_, RB, DK.rwR.short, hE⟩
          rw [short_short DK.rwR.tr]
          exact tp
    · have hb0 : b = [] := by
        have c1 : shortL b = [] := by simpa using c
        exact short_nil.mp c1
      have eg := ec_lt hE hb0
      subst eg
      have hsr := RA.short
      obtain ⟨tf, rfl, sf⟩ := ta1
      refine ⟨_, rfl, by show 0 ≤ sizeLine; decide, fun pf hpf => ?_⟩
      have sf2 := same_new (p := pf) (o := HO.tup []) hpf
      have tf2 : Tp K (upd H1 pf (.tup [])) (.ref pf) [] := ⟨pf, rfl, SqT.of upd_same⟩
      have s02 := s01.trans sf2
      have sf3 := same_sqT sf2 sf
      generalize upd H1 pf (.tup []) = H2 at tf2 s02 sf3 ⊢
      have tf4 : Tp K H2 (.ref tf) (shortL g) := ⟨tf, rfl, sf3⟩
      refine ⟨_, _, tf4.dp, tf2.dp, shaped_ints _, shaped_ints _, _, rfl, ?_⟩
      rw [eqv_ints]
      refine ite2 (fun c2 => ?_) (fun c2 => ?_)
      · have h0 : shortL g = [] := of_decide_eq_true c2
        refine ⟨_, rfl, q _ H2 s02 ?_⟩
        unfold posL
        rw [if_neg fun z => z.1 h0]
        exact tf4
      · have h0 : shortL g ≠ [] := fun z => c2 (decide_eq_true z)
        refine ⟨_, rfl, _, rfl, tf, _, -1, V.int ((shortL g).getD ((shortL g).length - 1) 0), rfl, rfl, sf3, at_last h0, _, _, rfl, rfl, _, rfl, ?_⟩
        refine ite2 (fun d => ?_) (fun d => ?_)
        · have hd : 0 < (shortL g).getD ((shortL g).length - 1) 0 := of_decide_eq_true d
          refine ⟨_, rfl, q _ H2 s02 ?_⟩
          unfold posL
          rw [if_neg fun z => absurd z.2 (by omega)]
          exact tf4
        · have hd : (shortL g).getD ((shortL g).length - 1) 0 < 0 := by
            have h1 : ¬ 0 < (shortL g).getD ((shortL g).length - 1) 0 := fun z => d (decide_eq_true z)
            have h2 := last_ne hsr.tr h0
            omega
          unfold tCB tCons tNil
          dsimp only
          refine lcT (K := K) (a := tf) (xs := (shortL g).map V.int) (fun i y => y = .int (0 - (shortL g).getD i 0)) (fun R r => ⟨_, rfl, r⟩) sf3 (by rw [List.length_map]; have := hsr.few; omega) (fun x => rfl) (fun i x H3 hi sm Q' q' => ?_) (fun D ys H3 hD s3 hy e1 e2 => ?_)
          · obtain ⟨z, hz, rfl⟩ := map_at hi
            refine ⟨_, rfl, _, _, rfl, rfl, q' _ _ ?_ (Same.refl _)⟩
            rw [List.getD_eq_getElem?_getD, hz]
            rfl
          · have ey := vals_map (e1.trans (List.length_map ..)) e2
            have en : ((List.range (shortL g).length).map fun i => 0 - (shortL g).getD i 0) = negL (shortL g) := by
              rw [neg_lst]
              apply List.map_congr_left
              intro i _
              show 0 - _ = _ * -1
              grind
            rw [en] at ey
            subst ey
            refine ⟨D, _, rfl, Or.inl ⟨SqL.of hy, fun l hl => q _ _ (s02.trans (s3.trans (same_new hl))) ⟨l, rfl, ?_⟩⟩⟩
            unfold posL
            rw [if_pos ⟨h0, hd⟩]
            exact SqT.of upd_same
end
end K6

namespace K6
open PySem L2 Ur
/-- a small factor -/
structure FOk (f : List Int) : Prop where
  tr : Tr f
  ne : f ≠ []
  few : f.length ≤ 3
  b : ∀ z ∈ f, z.natAbs ≤ 3
def Fac (K : PySem.W.Frag) (H : Hp) (v : V) : Prop := ∃ (l : Addr) (f : List Int), v = .ref l ∧ SqL K H l (f.map V.int) ∧ FOk f
theorem Fac.same {K : PySem.W.Frag} {H H' : Hp} {v : V} (h : Fac K H v) (s : Same H H') : Fac K H' v := by
  obtain ⟨l, f, e, hs, o⟩ := h
  exact ⟨l, f, e, s.seq hs, o⟩
theorem fac_new {K : PySem.W.Frag} {H : Hp} {l : Addr} (f : List Int) (o : FOk f) : Fac K (upd H l (.lst (f.map V.int))) (.ref l) := ⟨l, f, rfl, SqL.of upd_same, o⟩
/-- what k factors make -/
structure POk (k : Nat) (l : List Int) : Prop where
  tr : Tr l
  ne : l ≠ []
  few : l.length ≤ 1 + 2 * k
  b : ∀ z ∈ l, z.natAbs ≤ 6 * 9 ^ k
theorem mul_ne {a b : List Int} (ha : Tr a) (a0 : a ≠ []) (hb : Tr b) (b0 : b ≠ []) : mulL a b ≠ [] := by
  obtain ⟨c, k, hc, hk, e⟩ := PB.mul a b
  exact (PB.top hc hk e ha a0 (trim_last _) hb b0).1
theorem POk.next {k : Nat} {l f : List Int} (h : POk k l) (hk : k ≤ 1) (o : FOk f) : POk (k + 1) (mulL l f) := by
  refine ⟨trim_last _, mul_ne h.tr h.ne o.tr o.ne, ?_, fun z hz => ?_⟩
  · have := h.few
    have := o.few
    have := mul_len (a := l) (b := f)
    omega
  · refine Nat.le_trans (mul_mem h.b o.b z hz) ?_
    have h3 : l.length ≤ 3 := by have := h.few; omega
    rw [Nat.pow_succ]
    refine Nat.le_trans (Nat.mul_le_mul_right _ h3) ?_
    omega
/-- a product of factors -/
structure FaOk (l : List Int) : Prop where
  tr : Tr l
  ne : l ≠ []
  few : l.length ≤ 5
  b : ∀ z ∈ l, z.natAbs ≤ 486
theorem POk.fin {k : Nat} {l : List Int} (h : POk k l) (hk : k ≤ 2) : FaOk l := by
  refine ⟨h.tr, h.ne, by have := h.few; omega, fun z hz => Nat.le_trans (h.b z hz) ?_⟩
  have : 9 ^ k ≤ 9 ^ 2 := Nat.pow_le_pow_right (by decide) hk
  omega
def spFactors (K : PySem.W.Frag) : Sp := fun vs H Q _ => ∃ (u : Addr), vs = [.ref u] ∧ H u = some (PotO u) ∧ ∀ (p : V) (l : List Int) (H' : Hp), Same H H' → Tp K H' p l → FaOk l → Q p H'
section
variable {P : Program} {w : World} {K :
      PySem.W.Frag} {mg : Str → Option Value} {base : Heap}
abbrev n_lfactors : List Str := ["_law_pot_here", "_law_row_here", "_law_turn"]
abbrev p_lfactors : List Str := ["_law_pot_here"]
theorem sc_lfactors : FnScope n_lfactors p_lfactors (defScope sFactors) := ⟨rfl, rfl, rfl, by decide +kernel, rfl, by decide +kernel, by decide +kernel⟩
theorem ok_lfactors {f : Addr} {fd : FuncData} (F : Fun K "_law_factors" "_law_factors" sFactors f fd) (T : Bl mg) (H_law_of : Has P w K mg base "_law_of" p_of 2 spOf) (H_law_draw : Has P w K mg base "_law_draw" pDraw 1 spDraw) (H_law_multiplied : Has P w K mg base "_law_multiplied" p_lot 2 (spMul3 K)) : FnOk P w K mg base CX0 3 f fd p_lfactors (spFactors K) := by
  refine F.ok sc_lfactors (fun vs H Q E h => ?_) (fun cdv A outer s H vs Q E hr h => ?_)
  · obtain ⟨_, rfl, _⟩ := h
    rfl
  · obtain ⟨u, rfl, hu, q⟩ := h
    refine ⟨_, (pss_cons (ps_set (i := 1) sc_lfactors.nd rfl (Or.inl rfl) (pe_lst (pa_cons (pe_has H_law_of (hr.mono (by decide)) (by rfl) (pa_cons (pv 0) (pa_cons (pe_lst (pa_cons pe_int (pa_cons (pe_un un_neg pe_int) (pa_cons pe_int (pa_cons pe_int pa_nil))))) pa_nil))) pa_nil)))
      (pss_cons (ps_for PassesOwn.never rfl (pi_range1 (by rfl) T.range (pa_cons (pe_has H_law_draw (hr.mono (by decide)) (by rfl) (pa_cons (pv 0) (pa_cons pe_int pa_nil))) pa_nil)) (pg_name (i := 2) sc_lfactors.nd rfl (Or.inl rfl)) (pss_one (ps_set (i := 1) sc_lfactors.nd rfl (Or.inl rfl) (pe_has H_law_multiplied (hr.mono (by decide)) (by rfl) (pa_cons (pv 1) (pa_cons (pe_has H_law_of (hr.mono (by decide)) (by rfl) (pa_cons (pv 0) (pa_cons (pe_lst (pa_cons (pe_lst (pa_cons pe_int (pa_cons pe_int pa_nil))) (pa_cons (pe_lst (pa_cons (pe_un un_neg pe_int) (pa_cons pe_int pa_nil))) (pa_cons (pe_lst (pa_cons pe_int (pa_cons pe_int pa_nil))) (pa_cons (pe_lst (pa_cons pe_int (pa_cons pe_int pa_nil))) (pa_cons (pe_lst (pa_cons (pe_un un_neg pe_int) (pa_cons pe_int (pa_cons pe_int pa_nil)))) (pa_cons (pe_lst (pa_cons pe_int (pa_cons pe_int (pa_cons pe_int pa_nil)))) (pa_cons (pe_lst (pa_cons pe_int (pa_cons pe_int (pa_cons pe_int pa_nil)))) (pa_cons (pe_lst (pa_cons (pe_un un_neg pe_int) (pa_cons pe_int pa_nil))) pa_nil))))))))) pa_nil))) pa_nil))))))
      (pss_one (ps_ret (pe_callTy call_tuple_of (by rfl) T.tuple PyProof.Rows.boot_tuple (pa_cons (pv 1) pa_nil)))))), ?_⟩
    refine ⟨_, rfl, _, rfl, by show 4 ≤ sizeLine; decide, fun la hla => ⟨u, la, _, rfl, same_new hla _ _ hu, upd_same, by decide, by decide, fun x H1 hx s1 => ⟨by show 1 ≤ sizeLine; decide, fun lb hlb => ?_⟩⟩⟩
    obtain ⟨c, rfl, hc, hc6⟩ : ∃ c : Int, x = .int c ∧ c ≠ 0 ∧ c.natAbs ≤ 6 := by
      simp only [List.mem_cons,
            List.not_mem_nil, or_false] at hx
      rcases hx with rfl | rfl | rfl | rfl
      all_goals exact ⟨_, rfl, by decide, by decide⟩
    have s0 := (same_new hla).trans (s1.trans (same_new (p := lb) (o := HO.lst [V.int c]) hlb))
    have hb : (upd H1 lb (.lst [V.int c])) lb = some (.lst ([c].map V.int)) := upd_same
    generalize upd H1 lb (.lst [V.int c]) = H2 at s0 hb ⊢
    refine ⟨_, rfl, u, 3, rfl, s0 _ _ hu, by decide, by decide, fun r H3 r0 r1 s3 => ?_⟩
    obtain ⟨n, rfl⟩ := Int.eq_ofNat_of_zero_le r0
    have s03 := s0.trans s3
    have hP0 : POk 0 [c] := ⟨fun h => hc (Option.some.inj h), by simp, Nat.le_refl 1, fun z hz => by rw [List.mem_singleton.mp hz]; exact hc6⟩
    refine ⟨((n : Nat) : Int), rfl, by omega, by omega, for_range (lo := 0) (n := n) (fun k σ H' => ∃ (v : V) (l : List Int) (t : Option V), σ = [some (.ref u), some v, t] ∧ Same H H' ∧ ((∃ tb : Addr, v = .ref tb ∧ SqL K H' tb (l.map V.int)) ∨ Tp K H' v l) ∧ POk k l) ⟨.ref lb, [c], none, rfl, s03, Or.inl ⟨lb, rfl, SqL.of (s3 _ _ hb)⟩, hP0⟩ ?_ ?_⟩
    · rintro k σ H4 hk ⟨v, l, t, rfl, s4, hv, hP⟩
      refine ⟨_, rfl, _, rfl, by show 2 ≤ sizeLine; decide, fun l1 h1 => ?_⟩
      have F1 := fac_new (K := K) (H := H4) (l := l1) [(1 : Int), (1 : Int)] ⟨by decide, by decide, by decide, by decide⟩
      have t1 := same_new (p := l1) (o := HO.lst ([(1 : Int), (1 : Int)].map V.int)) h1
      have e1 : upd H4 l1 (.lst [V.int 1, V.int 1]) = upd H4 l1 (.lst ([(1 : Int), (1 : Int)].map V.int)) := rfl
      dsimp only
      rw [e1]
      clear e1
      generalize upd H4 l1 (.lst ([(1 : Int), (1 : Int)].map V.int)) = G1 at F1 t1 ⊢
      refine ⟨_, rfl, by show 2 ≤ sizeLine; decide, fun l2 h2 => ?_⟩
      have F2 := fac_new (K := K) (H := G1) (l := l2) [(-1 : Int), (1 : Int)] ⟨by decide, by decide, by decide, by decide⟩
      have t2 := same_new (p := l2) (o := HO.lst ([(-1 : Int), (1 : Int)].map V.int)) h2
      have e2 : upd G1 l2 (.lst [V.int (-1), V.int 1]) = upd G1 l2 (.lst ([(-1 : Int), (1 : Int)].map V.int)) := rfl
      dsimp only
      rw [e2]
      clear e2
      generalize upd G1 l2 (.lst ([(-1 : Int), (1 : Int)].map V.int)) = G2 at F2 t2 ⊢
      refine ⟨by show 2 ≤ sizeLine; decide, fun l3 h3 => ?_⟩
      have F3 := fac_new (K := K) (H := G2) (l := l3) [(1 : Int), (2 : Int)] ⟨by decide, by decide, by decide, by decide⟩
      have t3 := same_new (p := l3) (o := HO.lst ([(1 : Int), (2 : Int)].map V.int)) h3
      have e3 : upd G2 l3 (.lst [V.int 1, V.int 2]) = upd G2 l3 (.lst ([(1 : Int), (2 : Int)].map V.int)) := rfl
      dsimp only
      rw [e3]
      clear e3
      generalize upd G2 l3 (.lst ([(1 : Int), (2 : Int)].map V.int)) = G3 at F3 t3 ⊢
      refine ⟨by show 2 ≤ sizeLine; decide, fun l4 h4 => ?_⟩
      have F4 := fac_new (K := K) (H := G3) (l := l4) [(0 : Int), (1 : Int)] ⟨by decide, by decide, by decide, by decide⟩
      have t4 := same_new (p := l4) (o := HO.lst ([(0 : Int), (1 : Int)].map V.int)) h4
      have e4 : upd G3 l4 (.lst [V.int 0, V.int 1]) = upd G3 l4 (.lst ([(0 : Int), (1 : Int)].map V.int)) := rfl
      dsimp only
      rw [e4]
      clear e4
      generalize upd G3 l4 (.lst ([(0 : Int), (1 : Int)].map V.int)) = G4 at F4 t4 ⊢
      refine ⟨_, rfl, by show 3 ≤ sizeLine; decide, fun l5 h5 => ?_⟩
      have F5 := fac_new (K := K) (H := G4) (l := l5) [(-2 : Int), (0 : Int), (1 : Int)] ⟨by decide, by decide, by decide, by decide⟩
      have t5 := same_new (p := l5) (o := HO.lst ([(-2 : Int), (0 : Int), (1 : Int)].map V.int)) h5
      have e5 : upd G4 l5 (.lst [V.int (-2), V.int 0, V.int 1]) = upd G4 l5 (.lst ([(-2 : Int), (0 : Int), (1 : Int)].map V.int)) := rfl
      dsimp only
      rw [e5]
      clear e5
      generalize upd G4 l5 (.lst ([(-2 : Int), (0 : Int), (1 : Int)].map V.int)) = G5 at F5 t5 ⊢
      refine ⟨by show 3 ≤ sizeLine; decide, fun l6 h6 => ?_⟩
      have F6 := fac_new (K := K) (H := G5) (l := l6) [(1 : Int), (0 : Int), (1 : Int)] ⟨by decide, by decide, by decide, by decide⟩
      have t6 := same_new (p := l6) (o := HO.lst ([(1 : Int), (0 : Int), (1 : Int)].map V.int)) h6
      have e6 : upd G5 l6 (.lst [V.int 1, V.int 0, V.int 1]) = upd G5 l6 (.lst ([(1 : Int), (0 : Int), (1 : Int)].map V.int)) := rfl
      dsimp only
      rw [e6]
      clear e6
      generalize upd G5 l6 (.lst ([(1 : Int), (0 : Int), (1 : Int)].map V.int)) = G6 at F6 t6 ⊢
      refine ⟨by show 3 ≤ sizeLine; decide, fun l7 h7 => ?_⟩
      have F7 := fac_new (K := K) (H := G6) (l := l7) [(1 : Int), (1 : Int), (1 : Int)] ⟨by decide, by decide, by decide, by decide⟩
      have t7 := same_new (p := l7) (o := HO.lst ([(1 : Int), (1 : Int), (1 : Int)].map V.int)) h7
      have e7 : upd G6 l7 (.lst [V.int 1, V.int 1, V.int 1]) = upd G6 l7 (.lst ([(1 : Int), (1 : Int), (1 : Int)].map V.int)) := rfl
      dsimp only
      rw [e7]
      clear e7
      generalize upd G6 l7 (.lst ([(1 : Int), (1 : Int), (1 : Int)].map V.int)) = G7 at F7 t7 ⊢
      refine ⟨_, rfl, by show 2 ≤ sizeLine; decide, fun l8 h8 => ?_⟩
      have F8 := fac_new (K := K) (H := G7) (l := l8) [(-3 : Int), (2 : Int)] ⟨by decide, by decide, by decide, by decide⟩
      have t8 := same_new (p := l8) (o := HO.lst ([(-3 : Int), (2 : Int)].map V.int)) h8
      have e8 : upd G7 l8 (.lst [V.int (-3), V.int 2]) = upd G7 l8 (.lst ([(-3 : Int), (2 : Int)].map V.int)) := rfl
      dsimp only
      rw [e8]
      clear e8
      generalize upd G7 l8 (.lst ([(-3 : Int), (2 : Int)].map V.int)) = G8 at F8 t8 ⊢
      have t48 := t1.trans (t2.trans (t3.trans (t4.trans (t5.trans (t6.trans (t7.trans t8))))))
      refine ⟨by show 8 ≤ sizeLine; decide, fun lo ho => ?_⟩
      have to := same_new (p := lo) (o := HO.lst [V.ref l1, .ref l2, .ref l3, .ref l4, .ref l5, .ref l6, .ref l7, .ref l8]) ho
      refine ⟨u, lo, _, rfl, (t48.trans to) _ _ (s4 _ _ hu), upd_same, by show 0 < 8; decide, by show 8 ≤ 1000; decide, fun x H5 hx s5 => ?_⟩
      have hfac : Fac K H5 x := by
        have sA := to.trans s5
        simp only [List.mem_cons,
              List.not_mem_nil, or_false] at hx
        rcases hx with rfl | rfl | rfl | rfl | rfl | rfl | rfl | rfl
        · exact F1.same (t2.trans (t3.trans (t4.trans (t5.trans (t6.trans (t7.trans (t8.trans sA)))))))
        · exact F2.same (t3.trans (t4.trans (t5.trans (t6.trans (t7.trans (t8.trans sA))))))
        · exact F3.same (t4.trans (t5.trans (t6.trans (t7.trans (t8.trans sA)))))
        · exact F4.same (t5.trans (t6.trans (t7.trans (t8.trans sA))))
        · exact F5.same (t6.trans (t7.trans (t8.trans sA)))
        · exact F6.same (t7.trans (t8.trans sA))
        · exact F7.same (t8.trans sA)
        · exact F8.same sA
      have s45 := t48.trans (to.trans s5)
      obtain ⟨lf, ff, rfl, hsf, of⟩ := hfac
      have hnx := hP.next (by omega) of
      have b64 : ∀ n ∈ l, n.natAbs < 2 ^ 64 := fun n hn => by
        refine Nat.lt_of_le_of_lt (hP.b n hn) ?_
        have : 9 ^ k ≤ 9 ^ 2 := Nat.pow_le_pow_right (by decide) (by omega)
        omega
      refine ⟨v, _, l, ff, rfl, ?_, by have := hP.few; omega, by have := of.few; omega, b64, fun p H6 s6 tp => ?_⟩
      · rcases hv with ⟨tb, rfl, st⟩ | tv
        · exact Or.inr ⟨⟨tb, rfl, s45.seq st⟩, lf, rfl, hsf⟩
        · exact Or.inl ⟨tv.same s45, Or.inr ⟨lf, rfl, hsf⟩⟩
      · exact ⟨p, mulL l ff, _, rfl, s4.trans (s45.trans s6), Or.inr tp, hnx⟩
    · rintro σ H4 ⟨v, l, t, rfl, s4, hv, hP⟩
      have fo := hP.fin (by omega)
      rcases hv with ⟨tb, rfl, st⟩ | ⟨tb, rfl, st⟩
      · exact ⟨_, rfl, tb, _, rfl, Or.inl ⟨st, fun p hp => q _ l _ (s4.trans (same_new hp)) ⟨p, rfl, SqT.of upd_same⟩ fo⟩⟩
      · exact ⟨_, rfl, tb, _, rfl, Or.inr ⟨st, q _ l _ s4 ⟨tb, rfl, st⟩ fo⟩⟩
end
end K6

namespace K6
open PySem L2 Ur
/-! ### what divides both divides the common factor -/
theorem ec_base {m : Nat} {a b g h : List Int} (e : Ec m a b g) : Tr a → Tr b → Dv h a → Dv h b → Dv h g := by
  induction e with
  | stop _ => exact fun _ _ d _ => d
  | @step a b R g x y b0 _ _ _ r _ ih =>
    intro ha hb d1 d2
    refine ih hb (short_tr (rm_tr r ha)) d2 ?_
    obtain ⟨c, T, N, hc, hN, e⟩ := rm_rel r b0 hb
    by_cases R0 : R = []
    · rw [R0]
      exact .none h
    have gp := tr_pos (rm_tr r ha) R0
    obtain ⟨c1, T1, N1, hc1, hN1, e1⟩ := d1
    obtain ⟨c2, T2, N2, hc2, hN2, e2⟩ := d2
    refine ⟨c1 * c2 * (gAll R : Int), fun i => c * c2 * T1 i + (-c1) * cf i T2 T, N1 + N + N2, Int.mul_pos (Int.mul_pos hc1 hc2) (by omega), fun i hi => ?_, fun i => ?_⟩
    · show c * c2 * T1 i + (-c1) * cf i T2 T = 0
      rw [hN1 i (by omega), cf_end i hN2 hN (by omega)]
      simp
    · rw [cf_lin2, cf_scale2, ← cf_assoc]
      have q1 : c2 * cf i (gd b) T = cf i (fun j => cf j (gd h) T2) T := by
        rw [← cf_scale1]
        congr 1
        funext j
        exact e2 j
      rw [← q1, ← e1 i]
      have h3 := e i
      rw [short_mul (l := R)] at h3
      generalize a.getD i 0 = z at *
      generalize (shortL R).getD i 0 = v at *
      generalize cf i (gd b) T = w at *
      generalize (gAll R : Int) = G0 at *
      calc c1 * c2 * G0 * v = c1 * c2 * (G0 * v) := by grind
        _ = c1 * c2 * (c * z - w) := by rw [show G0 * v = c * z - w by rw [h3]; grind]
        _ = c * c2 * (c1 * z) + (-c1) * (c2 * w) := by grind
/-- of two rows that divide one another the one is the other but for a factor -/
theorem dv_scale {g a : List Int} (d : Dv g a) (hg : Tr g) (g0 : g ≠ []) (ha : Tr a) (hl : a.length ≤ g.length) : ∃ c t : Int, 0 < c ∧ ∀ i, c * a.getD i 0 = t * g.getD i 0 := by
  obtain ⟨c, T, N, hc, hN, e⟩ := d
  have z : ∀ M, (∀ i, M ≤ i → T (i + 1) = 0) → ∀ i, T (i + 1) = 0 := by
    intro M
    induction M with
    | zero => exact fun h i => h i (Nat.zero_le _)
    | succ M ih =>
      intro h
      refine ih fun i hi => ?_
      by_cases e3 : i = M
      · subst e3
        have h1 := conv_top (T := T) (t := i + 1) (fun j hj => by
          obtain ⟨k, rfl⟩ : ∃ k, j = k + 1 := ⟨j - 1, by omega⟩
          exact h k (by omega)) g g0
        have pg : 0 < g.length := List.length_pos_iff.mpr g0
        have h2 := e (g.length - 1 + (i + 1))
        rw [getD_none (by omega), Int.mul_zero, ← conv_cf, h1] at h2
        rcases Int.mul_eq_zero.mp h2.symm with h3 | h3
        · exact absurd h3 (last_ne hg g0)
        · exact h3
      · exact h i (by omega)
  have z1 := z N fun i hi => hN (i + 1) (by omega)
  refine ⟨c, T 0, hc, fun i => ?_⟩
  have eT : T = fun j => T 0 * (if j = 0 then 1 else 0) := by
    funext j
    cases j with
    | zero => simp
    | succ j => rw [z1 j, if_neg (by omega), Int.mul_zero]
  rw [e i, eT, cf_scale2, cf_one]
  simp
theorem dv_len {g a : List Int} (d : Dv g a) (hg : Tr g) (g0 : g ≠ []) (ha : Tr a) (a0 : a ≠ []) : g.length ≤ a.length := by
  rcases Nat.lt_or_ge a.length g.length with h | h
  · exfalso
    obtain ⟨c, T, N, hc, hN, e⟩ := d
    have z := conv_zero g0 (last_ne hg g0) (fun i hi => by
      rw [conv_cf, ← e i, getD_none (by omega), Int.mul_zero]) N hN
    have h1 := e (a.length - 1)
    rw [← conv_cf, conv_none z] at h1
    rcases Int.mul_eq_zero.mp h1 with h2 | h2
    · omega
    · exact last_ne ha a0 h2
  · exact h
theorem pos_neg {x : List Int} (h : Tr x) (h0 : x ≠ []) : posL (negL x) = posL x := by
  have n0 : negL x ≠ [] := fun z => h0 (List.map_eq_nil_iff.mp z)
  have hl := last_ne h h0
  have e : (negL x).getD ((negL x).length - 1) 0 = -x.getD (x.length - 1) 0 := by rw [neg_len, neg_getD]
  have nn : negL (negL x) = x := rows_ext (neg_tr (neg_tr h)) h fun i => by rw [neg_getD, neg_getD, Int.neg_neg]
  unfold posL
  rw [e, nn]
  by_cases c : x.getD (x.length - 1) 0 < 0
  · rw [if_neg fun z => absurd z.2 (by omega), if_pos ⟨h0, c⟩]
  · rw [if_pos ⟨n0, by omega⟩, if_neg fun z => c z.2]
theorem same_gcd {g a : List Int} (d1 : Dv g a) (d2 : Dv a g) (hg : Tr g) (ha : Tr a) (g0 : g ≠ []) (a0 : a ≠ []) : posL (shortL a) = posL (shortL g) := by
  have l1 := dv_len d1 hg g0 ha a0
  have l2 := dv_len d2 ha a0 hg g0
  obtain ⟨c, t, hc, e⟩ := dv_scale d1 hg g0 ha l2
  rcases Int.lt_trichotomy t 0 with h | h | h
  · have p : Pr a (negL g) := ⟨c, -t, hc, by omega, fun i => by rw [e i, neg_getD]; grind⟩
    have e2 := p.short ha (neg_tr hg)
    have e3 : shortL (negL g) = negL (shortL g) := by
      have p2 : Pr (negL g) (negL (shortL g)) := by
        obtain ⟨c', k', h1, h2, h3⟩ := short_pr hg
        exact ⟨c', k', h1, h2, fun i => by rw [neg_getD, neg_getD, Int.mul_neg, h3 i, Int.mul_neg]⟩
      have h4 := p2.short (neg_tr hg) (neg_tr (short_tr hg))
      rw [h4]
      have h5 : gAll (negL (shortL g)) = gAll (shortL g) := by
        unfold negL gAll
        have : ∀ (l : List Int) (k : Nat), (l.map fun n => n * -1).foldl (fun g n => Nat.gcd g n.natAbs) k = l.foldl (fun g n => Nat.gcd g n.natAbs) k := by
          intro l
          induction l with
          | nil => exact fun _ => rfl
          | cons x r ih =>
            intro k
            show (r.map fun n => n * -1).foldl _ (Nat.gcd k (x * -1).natAbs) = _
            rw [show (x * -1).natAbs = x.natAbs by rw [Int.natAbs_mul]; show x.natAbs * 1 = _; omega]
            exact ih _
        exact this _ _
      have s0 : shortL g ≠ [] := fun z => g0 (short_nil.mp z)
      have h6 : gAll (shortL g) = 1 := by
        have h7 := short_mul (l := shortL g) (i := (shortL g).length - 1)
        rw [short_short hg] at h7
        have h8 := last_ne (short_tr hg) s0
        have h9 : ((gAll (shortL g) : Nat) : Int) = 1 := by
          have : (1 - ((gAll (shortL g) : Nat) : Int)) * (shortL g).getD ((shortL g).length - 1) 0 = 0 := by
            rw [Int.sub_mul, ← h7]
            grind
          rcases Int.mul_eq_zero.mp this with h | h
          · omega
          · exact absurd h h8
        omega
      show (negL (shortL g)).map (fun n => n / (gAll (negL (shortL g)) : Int)) = _
      rw [h5, h6]
      simp
    rw [e2, e3, pos_neg (short_tr hg) (fun z => g0 (short_nil.mp z))]
  · exfalso
    have h1 := e (a.length - 1)
    rw [h, Int.zero_mul] at h1
    rcases Int.mul_eq_zero.mp h1 with h2 | h2
    · omega
    · exact last_ne ha a0 h2
  · exact congrArg posL ((show Pr a g from ⟨c, t, hc, h, e⟩).short ha hg)
/-- the common factor itself, with its sign -/
theorem pos_tr {x : List Int} (h : Tr x) : Tr (posL x) := by
  unfold posL
  split
  · exact neg_tr h
  · exact h
theorem pos_len (x : List Int) : (posL x).length = x.length := by
  unfold posL
  split
  · exact neg_len x
  · rfl
theorem pos_bt {n : Nat} {x : List Int} (h : Bt n x) : Bt n (posL x) := by
  unfold posL
  split
  · exact .of fun i => by rw [neg_getD, Int.natAbs_neg]; exact h.get i
  · exact h
theorem pos_fac {g : List Int} (hg : Tr g) (g0 : g ≠ []) : ∃ t : Int, t ≠ 0 ∧ ∀ i, g.getD i 0 = t * (posL (shortL g)).getD i 0 := by
  have gp := tr_pos hg g0
  unfold posL
  split
  · refine ⟨-(gAll g : Int), by omega, fun i => ?_⟩
    rw [neg_getD, short_mul (l := g)]
    grind
  · exact ⟨(gAll g : Int), by omega, fun i => short_mul⟩
theorem Dv.pos1 {g a : List Int} (d : Dv g a) (hg : Tr g) (g0 : g ≠ []) : Dv (posL (shortL g)) a := by
  obtain ⟨t, ht, e⟩ := pos_fac hg g0
  obtain ⟨c, T, N, hc, hN, e1⟩ := d
  refine ⟨c, fun i => t * T i, N, hc, fun i hi => by show t * T i = 0; rw [hN i hi, Int.mul_zero], fun i => ?_⟩
  rw [e1 i, cf_scale2, ← cf_scale1]
  congr 1
  funext j
  exact e j
theorem Dv.pos2 {h g : List Int} (d : Dv h g) (hg : Tr g) (g0 : g ≠ []) : Dv h (posL (shortL g)) := by
  obtain ⟨t, ht, e⟩ := pos_fac hg g0
  obtain ⟨c, T, N, hc, hN, e1⟩ := d
  rcases Int.lt_or_gt_of_ne ht with h1 | h1
  · refine ⟨c * -t, fun i => -1 * T i, N, Int.mul_pos hc (by omega), fun i hi => by show -1 * T i = 0; rw [hN i hi, Int.mul_zero], fun i => ?_⟩
    rw [cf_scale2, ← e1 i, e i]
    grind
  · refine ⟨c * t, T, N, Int.mul_pos hc h1, hN, fun i => ?_⟩
    rw [← e1 i, e i]
    grind
theorem PB.dv {b r ρ : List Int} (h : PB b r ρ) : Dv b r := by
  obtain ⟨c, k, hc, hk, e⟩ := h
  exact ⟨c, fun i => k * gd ρ i, ρ.length, hc, fun i hi => by show k * ρ.getD i 0 = 0; rw [getD_none hi, Int.mul_zero], fun i => by rw [cf_scale2]; exact e i⟩
theorem ec_len {m : Nat} {a b g : List Int} (h : Ec m a b g) : g.length ≤ max a.length b.length := by
  induction h with
  | stop _ => exact Nat.le_max_left _ _
  | @step a b R g x y b0 _ _ _ r _ ih =>
    rw [short_len] at ih
    have := rm_lt r
    omega
end K6

namespace K6
open PySem L2 Ur
theorem FaOk.bt {l : List Int} (h : FaOk l) : Bt 10 l := fun z hz => Nat.lt_of_le_of_lt (h.b z hz) (by decide)
theorem fa_mul {b l : List Int} (hb : FaOk b) (hl : FaOk l) : Tr (mulL b l) ∧ mulL b l ≠ [] ∧ (mulL b l).length ≤ b.length + 4 ∧ Bt 23 (mulL b l) := by
  refine ⟨trim_last _, mul_ne hb.tr hb.ne hl.tr hl.ne, ?_, ?_⟩
  · have := mul_len (a := b) (b := l)
    have := hl.few
    omega
  · refine mul_bt (w := 13) (z := 10) hb.b ?_ hl.bt
    exact Nat.lt_of_le_of_lt (Nat.mul_le_mul_right _ hb.few) (by decide)
theorem fa_ec {b l r : List Int} (hb : FaOk b) (hl : FaOk l) (hr : FaOk r) : ∃ g, Ec 800 (mulL b l) (mulL b r) g ∧ Tr g ∧ g ≠ [] ∧ b.length ≤ g.length := by
  have hG := List.all_eq_true.mp (List.all_eq_true.mp G_left l.length (List.mem_range.mpr (by have := hl.few; omega))) r.length (List.mem_range.mpr (by have := hr.few; omega))
  obtain ⟨m1, m2, m3, m4⟩ := fa_mul hb hl
  obtain ⟨n1, n2, n3, n4⟩ := fa_mul hb hr
  obtain ⟨g, h1, h2, ρg, h3, h4, h5⟩ := ec_of (w := 13) (m := 800) (B := 486) hb.tr hb.ne hb.b (Nat.lt_of_le_of_lt (Nat.mul_le_mul_right _ hb.few) (by decide)) 9 (mulL b l) (mulL b r) l r 10 10 m1 n1 hl.tr hr.tr (.mul b l) (.mul b r) hl.bt hr.bt m4 n4 hG
  have h6 := h5 (Or.inl hl.ne)
  obtain ⟨c, k, hc, hk, e⟩ := h3
  obtain ⟨q1, q2, _⟩ := PB.top hc hk e hb.tr hb.ne h2 h4 h6
  have := List.length_pos_iff.mpr h6
  exact ⟨g, h1, h2, q1, by omega⟩
theorem dok_none {a o : List Int} {x y : Nat} (ta : Tr a) (to : Tr o) (o0 : o ≠ []) (la : a.length ≤ 13) (lo : o.length ≤ 13) (ba : Bt x a) (bo : Bt y o) (h9 : x + (a.length + 1 - o.length) * (y + 1) + y ≤ 9000) (d : Dv o a) : DOk a o [] x y := by
  obtain ⟨R, r, _, _⟩ := rm_ex to o0 a.length a (Nat.le_refl _) ta
  have := dv_none d r o0 to ta
  subst this
  exact ⟨o0, ta, to, la, lo, ba, bo, h9, r⟩
theorem unit_bt {x : Nat} {ρ : List Int} (h : Bt x ρ) : Bt (x + 1) ρ := h.up (by omega)
theorem third_ec {a c : List Int} (ha : Tr a) (hc : Tr c) (la : a.length ≤ 13) (lc : c.length ≤ 5) (ba : Bt 23 a) (bc : Bt 44 c) : ∃ g, Ec 9000 a c g := by
  have hG := List.all_eq_true.mp (List.all_eq_true.mp G_third a.length (List.mem_range.mpr (by omega))) c.length (List.mem_range.mpr (by omega))
  obtain ⟨g, h1, _⟩ := ec_of (w := 1) (m := 9000) (B := 1) (b := [1]) (by decide) (by decide) (by decide) (by decide) 8 a c a c 23 44 ha hc ha hc (.unit a) (.unit c) ba bc (unit_bt ba) (unit_bt bc) hG
  exact ⟨g, h1⟩
theorem seven {m : Nat} {c g : List Int} (h : Ec m [7] c g) (hc : Tr c) : posL (shortL g) = [1] := by
  have t7 : Tr [7] := by decide
  have tg := ec_tr h t7 hc
  have d := (ec_dv h t7 hc).1
  have g0 : g ≠ [] := fun z => by
    subst z
    obtain ⟨k, T, N, hk, _, e⟩ := d
    have e0 := e 0
    rw [← conv_cf] at e0
    have : k * 7 = 0 := e0
    omega
  have l1 : g.length ≤ 1 := dv_len d tg g0 t7 (by decide)
  have lg : g.length = 1 := by
    have := List.length_pos_iff.mpr g0
    omega
  have b1 := Bt.one tg lg
  have ts := short_tr tg
  have ls : (shortL g).length = 1 := by rw [short_len]; exact lg
  generalize shortL g = s at b1 ts ls
  match s, ls with
  | [z], _ =>
    have hz : z.natAbs < 2 := b1 z List.mem_cons_self
    have hz0 : z ≠ 0 := fun e => ts (by rw [e]; rfl)
    have : z = 1 ∨ z = -1 := by omega
    rcases this with
          rfl | rfl <;> decide
/-! ### texts of greater numbers -/
structure Big3 (ds : List PyData) (n : Nat) : Prop where
  ls : PyData.leavesShortAll 300 ds = true
  wt : PyData.weightAll ds ≤ n
  sh : PyData.showableAll ds = true
  hd : PyData.hasDictAll ds = false
  dp : PyData.depthAll ds ≤ 1
theorem log800 {n : Nat} (h : n < 2 ^ 800) : n.log2 + 1 ≤ 801 := by
  by_cases z : n = 0
  · subst z; decide
  · have : n.log2 < 800 := (Nat.log2_lt z).mpr h
    omega
theorem shown300 {n : Int} (h : n.natAbs < 2 ^ 800) : (PyData.shown (.int n)).length ≤ 300 := by
  have e := int_text_length_le10 (a := n) (k := 299) (by decide) (Nat.lt_of_lt_of_le h (by decide +kernel))
  show (Str.ofString (toString n)).length ≤ 300
  rw [ofString_length]
  exact e
theorem cints_ok : ∀ {ns : List Int}, Bt 800 ns → Big3 (ns.map PyData.int) (803 * ns.length)
  | [], _ => ⟨rfl, Nat.le_refl _, rfl, rfl, Nat.zero_le _⟩
  | n :: r, h => by
    have hn := h n List.mem_cons_self
    obtain ⟨a, b, c, d, e⟩ := cints_ok (ns := r) fun m hm => h m (List.mem_cons_of_mem _ hm)
    have l := log800 hn
    refine ⟨?_, ?_, ?_, ?_, ?_⟩
    · show (decide ((PyData.shown (.int n)).length ≤ 300) && PyData.leavesShortAll 300 (r.map PyData.int)) = true
      rw [a, decide_eq_true (shown300 hn)]
      rfl
    · show (if n == 0 then 0 else n.natAbs.log2 + 1) + 1 + PyData.weightAll (r.map PyData.int) ≤ 803 * (r.length + 1)
      split <;> omega
    · show (decide (n.natAbs.log2 < 1920) && PyData.showableAll (r.map PyData.int)) = true
      rw [c, decide_eq_true (by omega)]
      rfl
    · show (false || PyData.hasDictAll (r.map PyData.int)) = false
      rw [d]
      rfl
    · show max 0 (PyData.depthAll (r.map PyData.int)) ≤ 1
      omega
theorem ctups_ok : ∀ {nss : List (List Int)}, (∀ ns ∈ nss, ns.length ≤ 13 ∧ Bt 800 ns) → Big3 (nss.map tupD) (10500 * nss.length)
  | [], _ => ⟨rfl, Nat.le_refl _, rfl, rfl, Nat.zero_le _⟩
  | ns :: r, h => by
    obtain ⟨hl, hn⟩ := h ns List.mem_cons_self
    obtain ⟨a, b, c, d, e⟩ := ctups_ok (nss := r) fun m hm => h m (List.mem_cons_of_mem _ hm)
    obtain ⟨a', b', c', d', e'⟩ := cints_ok hn
    refine ⟨?_, ?_, ?_, ?_, ?_⟩
    · show (PyData.leavesShortAll 300 (ns.map PyData.int) && PyData.leavesShortAll 300 (r.map tupD)) = true
      rw [a, a']
      rfl
    · show PyData.weightAll (ns.map PyData.int) + 1 + PyData.weightAll (r.map tupD) ≤ 10500 * (r.length + 1)
      omega
    · show (PyData.showableAll (ns.map PyData.int) && PyData.showableAll (r.map tupD)) = true
      rw [c, c']
      rfl
    · show (PyData.hasDictAll (ns.map PyData.int) || PyData.hasDictAll (r.map tupD)) = false
      rw [d, d']
      rfl
    · show max (PyData.depthAll (ns.map PyData.int) + 1) (PyData.depthAll (r.map tupD)) ≤ 1
      have := depth_ints ns
      omega
theorem crep_facts {ds : List PyData} {n : Nat} (o : Big3 ds n) (hn : n ≤ 50000) : (PyData.list ds).showable = true ∧ (PyData.list ds).hasDict = false ∧ (PyData.list ds).shown.length ≤ sizeLine ∧ (PyData.list ds).depth ≤ 60 := by
  refine ⟨o.sh, o.hd, ?_, by show PyData.depthAll ds + 1 ≤ 60; have := o.dp; omega⟩
  have h := PyData.shown_le 300 (by decide) (.list ds) o.ls
  have hw : (PyData.list ds).weight ≤ n := o.wt
  exact Nat.le_trans h (Nat.le_trans (by omega : (300 + 2) * (PyData.list ds).weight + 300 ≤ 16200000) (by decide))
section
variable {P : Program} {w : World} {K :
      PySem.W.Frag} {mg : Str → Option Value} {base : Heap}
abbrev n_law_right : List Str := ["_law_pot_here", "_law_base", "_law_left", "_law_right_here", "_law_one", "_law_two", "_law_due", "_law_told", "_law_own", "_law_third"]
abbrev p_law_right : List Str := ["_law_pot_here"]
theorem sc_law_right : FnScope n_law_right p_law_right (defScope sRight) := ⟨rfl, rfl, rfl, by decide +kernel, rfl, by decide +kernel, by decide +kernel⟩
def spRight : Sp := fun vs H Q _ => ∃ u : Addr, vs = [.ref u] ∧ H u = some (PotO u) ∧ ∀ H' : Hp, Same H H' → Q (.bl true) H'
set_option
      maxHeartbeats 4000000 in
theorem ok_right {f : Addr} {fd : FuncData} (F : Fun K "_law_right" "_law_right" sRight f fd) (T : Bl mg) (H_law_factors : Has P w K mg base "_law_factors" p_lfactors 3 (spFactors K)) (H_law_row : Has P w K mg base "_law_row" p_lrow 3 (spLRow K))
    (H_law_multiplied : Has P w K mg base "_law_multiplied" p_lot 2 (spMul3 K)) (H_law_shared : Has P w K mg base "_law_shared" p_lot 4 (spCF K))
    (H_remainder : Has P w K mg base "remainder" p_ro 6 (spRemn K)) (H_common_factor : Has P w K mg base "common_factor" p_ro 6 (spCF K)) (HR_common_factor : HasR P w K mg base "common_factor" p_ro 6 (spCF K)) :
    FnG P w K mg base CX0 7 f fd p_law_right spRight := by
  refine okG F sc_law_right (fun vs H Q E h => ?_) (fun cdv A outer s H vs Q E hg hr h => ?_)
  · obtain ⟨u, rfl, _⟩ := h
    rfl
  · obtain ⟨u, rfl, hu0, q⟩ := h
    have hu : (A.deeper (PyProof.Rows.envOfC "_law_right" (defScope sRight) s.heap.objs.size f cdv)).units + 64 < cLine := hr.units
    refine ⟨_, (pss_cons (ps_par (i := 1) (j := 2) rfl sc_law_right.nd rfl rfl (by decide) rfl rfl (pa_cons (pe_has H_law_factors (hr.mono (by decide)) (by rfl) (pa_cons (pv 0) pa_nil)) (pa_cons (pe_has H_law_factors (hr.mono (by decide)) (by rfl) (pa_cons (pv 0) pa_nil)) pa_nil)) (by rfl))
      (pss_cons (ps_set (i := 3) sc_law_right.nd rfl (Or.inl rfl) (pe_has H_law_factors (hr.mono (by decide)) (by rfl) (pa_cons (pv 0) pa_nil)))
      (pss_cons (ps_par (i := 4) (j := 5) rfl sc_law_right.nd rfl rfl (by decide) rfl rfl (pa_cons (pe_has H_law_multiplied (hr.mono (by decide)) (by rfl) (pa_cons (pv 1) (pa_cons (pv 2) pa_nil))) (pa_cons (pe_has H_law_multiplied (hr.mono (by decide)) (by rfl) (pa_cons (pv 1) (pa_cons (pv 3) pa_nil))) pa_nil)) (by rfl))
      (pss_cons (ps_set (i := 6) sc_law_right.nd rfl (Or.inl rfl) (pe_has H_law_shared (hr.mono (by decide)) (by rfl) (pa_cons (pv 4) (pa_cons (pv 5) pa_nil))))
      (pss_cons (ps_set (i := 7) sc_law_right.nd rfl (Or.inl rfl) (pe_lst (pa_cons (pe_has H_common_factor (hr.mono (by decide)) (by rfl) (pa_cons (pv 4) (pa_cons (pv 5) pa_nil))) (pa_cons (pe_has H_common_factor (hr.mono (by decide)) (by rfl) (pa_cons (pv 5) (pa_cons (pv 4) pa_nil))) (pa_cons (pe_hasR0 HR_common_factor (hr.mono (by decide)) (by rfl) (pk_cons (pv 5) (pk_cons (pv 4) pk_nil))) pa_nil)))))
      (pss_cons (ps_if (pt_cmpR op_ne (pe_callB (call_repr hg hu) (by rfl) T.repr PyProof.Rows.boot_repr (pa_cons (pv 7) pa_nil)) (pe_callB (call_repr hg hu) (by rfl) T.repr PyProof.Rows.boot_repr (pa_cons (pe_lst (pa_cons (pv 6) (pa_cons (pv 6) (pa_cons (pv 6) pa_nil)))) pa_nil)) (nomark _)) (pss_one (ps_ret pe_bl)) pss_nil)
      (pss_cons (ps_if ((pw_or (pt_cmpR (op_neD hu) (pe_has H_remainder (hr.mono (by decide)) (by rfl) (pa_cons (pv 4) (pa_cons (pv 6) pa_nil))) (pe_tup pa_nil) (nomark _)) (pw_or (pt_cmpR (op_neD hu) (pe_has H_remainder (hr.mono (by decide)) (by rfl) (pa_cons (pv 5) (pa_cons (pv 6) pa_nil))) (pe_tup pa_nil) (nomark _)) (pw_or1 (pt_cmpR (op_neD hu) (pe_has H_remainder (hr.mono (by decide)) (by rfl) (pa_cons (pv 6) (pa_cons (pv 1) pa_nil))) (pe_tup pa_nil) (nomark _)))))).pt (pss_one (ps_ret pe_bl)) pss_nil)
      (pss_cons (ps_set (i := 8) sc_law_right.nd rfl (Or.inl rfl) (pe_has H_law_shared (hr.mono (by decide)) (by rfl) (pa_cons (pv 4) (pa_cons (pe_tup pa_nil) pa_nil))))
      (pss_cons (ps_set (i := 7) sc_law_right.nd rfl (Or.inl rfl) (pe_lst (pa_cons (pe_has H_common_factor (hr.mono (by decide)) (by rfl) (pa_cons (pv 4) (pa_cons (pe_tup pa_nil) pa_nil))) (pa_cons (pe_has H_common_factor (hr.mono (by decide)) (by rfl) (pa_cons (pe_tup pa_nil) (pa_cons (pv 4) pa_nil))) (pa_cons (pe_has H_common_factor (hr.mono (by decide)) (by rfl) (pa_cons (pe_tup pa_nil) (pa_cons (pe_tup pa_nil) pa_nil))) (pa_cons (pe_has H_common_factor (hr.mono (by decide)) (by rfl) (pa_cons (pv 4) (pa_cons (pv 4) pa_nil))) pa_nil))))))
      (pss_cons (ps_if (pt_cmpR op_ne (pe_callB (call_repr hg hu) (by rfl) T.repr PyProof.Rows.boot_repr (pa_cons (pv 7) pa_nil)) (pe_callB (call_repr hg hu) (by rfl) T.repr PyProof.Rows.boot_repr (pa_cons (pe_lst (pa_cons (pv 8) (pa_cons (pv 8) (pa_cons (pe_tup pa_nil) (pa_cons (pv 8) pa_nil))))) pa_nil)) (nomark _)) (pss_one (ps_ret pe_bl)) pss_nil)
      (pss_cons (ps_set (i := 9) sc_law_right.nd rfl (Or.inl rfl) (pe_has H_law_row (hr.mono (by decide)) (by rfl) (pa_cons (pv 0) (pa_cons pe_int pa_nil))))
      (pss_one (ps_ret (pe_and (pe_cmpR (op_eqD hu) (pe_has H_common_factor (hr.mono (by decide)) (by rfl) (pa_cons (pv 4) (pa_cons (pv 9) pa_nil))) (pe_has H_law_shared (hr.mono (by decide)) (by rfl) (pa_cons (pv 4) (pa_cons (pv 9) pa_nil))) (nomark _)) (pe_one (pe_cmpR (op_eqD hu) (pe_has H_common_factor (hr.mono (by decide)) (by rfl) (pa_cons (pe_tup (pa_cons pe_int pa_nil)) (pa_cons (pv 9) pa_nil))) (pe_tup (pa_cons pe_int pa_nil)) (nomark _))))))))))))))))), ?_⟩
    refine ⟨_, rfl, u, rfl, hu0, fun vb b H1 s1 tb Fb => ⟨_, rfl, u, rfl, s1 _ _ hu0, fun vl l H2 s2 tl Fl => ⟨_, _, rfl, ?_⟩⟩⟩
    have s02 := s1.trans s2
    refine ⟨_, rfl, u, rfl, s02 _ _ hu0, fun vr r H3 s3 tr Fr => ?_⟩
    have tb3 := tb.same (s2.trans s3)
    have tl3 := tl.same s3
    have s03 := s02.trans s3
    clear tb tl s1 s2 s02 s3 H1 H2
    have b64 : ∀ z ∈ b, z.natAbs < 2 ^ 64 := fun z hz => Nat.lt_of_le_of_lt (Fb.b z hz) (by decide)
    have lb5 := Fb.few
    have ll5 := Fl.few
    have lr5 := Fr.few
    obtain ⟨m1, m2, m3, m4⟩ := fa_mul Fb Fl
    obtain ⟨n1, n2, n3, n4⟩ := fa_mul Fb Fr
    obtain ⟨g, hE, tg, g0, lg⟩ := fa_ec Fb Fl Fr
    obtain ⟨g2, hE2, tg2, g20, lg2⟩ := fa_ec Fb Fr Fl
    have dB1 : Dv b (mulL b l) := (PB.mul b l).dv
    have dB2 : Dv b (mulL b r) := (PB.mul b r).dv
    refine ⟨_, rfl, _, rfl, vb, vl, b, l, rfl, Or.inl ⟨tb3, Or.inl tl3⟩, by omega, by omega, b64, fun v1 H4 s4 t1 => ⟨_, rfl, _, rfl, vb, vr, b, r, rfl, Or.inl ⟨tb3.same s4, Or.inl (tr.same s4)⟩, by omega, by omega, b64, fun v2 H5 s5 t2 => ⟨_, _, rfl, ?_⟩⟩⟩
    generalize hone : mulL b l = one at *
    generalize htwo : mulL b r = two at *
    have lone : one.length ≤ 9 := by omega
    have ltwo : two.length ≤ 9 := by omega
    have s45 := s4.trans s5
    have t1' := t1.same s5
    have tb5 := tb3.same s45
    have s05 := s03.trans s45
    clear t1 tb3 tl3 tr s4 s5 s45 s03 hone htwo
    have o9 : Bt 9000 one := m4.up (by decide)
    have w9 : Bt 9000 two := n4.up (by decide)
    refine ⟨_, rfl, _, rfl, v1, v2, one, two, g, 800, rfl, t1', t2, m1, n1, by omega, by omega, o9, w9, by decide, hE, fun vd H6 s6 td => ?_⟩
    obtain ⟨dv1, dv2⟩ := ec_dv hE m1 n1
    obtain ⟨ev2, ev1⟩ := ec_dv hE2 n1 m1
    have eqd : posL (shortL g2) = posL (shortL g) := same_gcd (ec_base hE2 n1 m1 dv2 dv1) (ec_base hE m1 n1 ev1 ev2) tg tg2 g0 g20
    have t16 := t1'.same s6
    have t26 := t2.same s6
    have tb6 := tb5.same s6
    have s06 := s05.trans s6
    clear t1' t2 tb5 s05 s6 H5
    obtain ⟨due, edue⟩ : ∃ x, x = posL (shortL g) := ⟨_, rfl⟩
    have lgg : g.length ≤ 9 := by have := ec_len hE; omega
    have Td : Tr due := by rw [edue]; exact pos_tr (short_tr tg)
    have ldue : due.length = g.length := by rw [edue, pos_len, short_len]
    have d0 : due ≠ [] := fun z => by
      have := List.length_pos_iff.mpr g0
      rw [← ldue, z] at this
      exact absurd this (Nat.not_lt_zero _)
    have bd : Bt 800 due := by rw [edue]; exact pos_bt ((ec_bt hE).short tg)
    have D1 : DOk one due [] 23 800 := by
      refine dok_none m1 Td d0 (by omega) (by omega) m4 bd ?_ (by rw [edue]; exact dv1.pos1 tg g0)
      have := Nat.mul_le_mul_right (800 + 1) (by omega : one.length + 1 - due.length ≤ 5)
      omega
    have D2 : DOk two due [] 23 800 := by
      refine dok_none n1 Td d0 (by omega) (by omega) n4 bd ?_ (by rw [edue]; exact dv2.pos1 tg g0)
      have := Nat.mul_le_mul_right (800 + 1) (by omega : two.length + 1 - due.length ≤ 5)
      omega
    have D3 : DOk due b [] 800 10 := by
      refine dok_none Td Fb.tr Fb.ne (by omega) (by omega) bd Fb.bt ?_ (by rw [edue]; exact (ec_base hE m1 n1 dB1 dB2).pos2 tg g0)
      have := Nat.mul_le_mul_right (10 + 1) (by omega : due.length + 1 - b.length ≤ 13)
      omega
    rw [← edue] at td
    clear ev1 ev2
    -- the common factors
    refine ⟨_, rfl, _, rfl, v1, v2, one, two, g, 800, rfl, t16, t26, m1, n1, by omega, by omega, o9, w9, by decide, hE, fun p1 H7 s7 q1 => ⟨_, rfl, _, rfl, v2, v1, two, one, g2, 800, rfl, t26.same s7, t16.same s7, n1, m1, by omega, by omega, w9, o9, by decide, hE2, fun p2 H8 s8 q2 => ?_⟩⟩
    refine ⟨_, rfl, _, rfl, v1, v2, one, two, g, 800, rfl, t16.same (s7.trans s8), t26.same (s7.trans s8), m1, n1, by omega, by omega, o9, w9, by decide, hE, fun p3 H9 s9 q3 => ⟨by show 3 ≤ sizeLine; decide, fun lt hlt => ?_⟩⟩
    rw [eqd] at q2
    rw [← edue] at q1 q2 q3
    have sT := same_new (p := lt) (o := HO.lst [p1, p2, p3]) hlt
    have DT := dp_list (K := K) (H := upd H9 lt (HO.lst [p1, p2, p3])) upd_same (dpAll_tps (nss := [due, due, due]) (.cons (q1.same (s8.trans (s9.trans sT))) (.cons (q2.same (s9.trans sT)) (.cons (q3.same sT) .nil))))
    have BO : Big3 ([due, due, due].map tupD) (10500 * 3) := ctups_ok (nss := [due, due, due]) fun ns h => by
      simp only [List.mem_cons, List.not_mem_nil, or_false, or_self] at h
      subst h
      exact ⟨by omega, bd⟩
    obtain ⟨o1, o2, o3, o4⟩ := crep_facts BO (by decide)
    have s6T := s7.trans (s8.trans (s9.trans sT))
    have t17 := t16.same s6T
    have t27 := t26.same s6T
    have td7 := td.same s6T
    have tb7 := tb6.same s6T
    have s07 := s06.trans s6T
    generalize upd H9 lt (HO.lst [p1, p2, p3]) = H10 at DT t17 t27 td7 tb7 s07 ⊢
    clear s6T sT q1 q2 q3 s7 s8 s9 t16 t26 td tb6 s06 hlt H7 H8 H9
    refine ⟨_, rfl, lt, _, rfl, DT, o1, o2, o3, o4, _, rfl, _, rfl, _, rfl, by show 3 ≤ sizeLine; decide, fun ld hld => ?_⟩
    have sD := same_new (p := ld) (o := HO.lst [vd, vd, vd]) hld
    have DD := dp_list (K := K) (H := upd H10 ld (HO.lst [vd, vd, vd])) upd_same (dpAll_tps (nss := [due, due, due]) (.cons (td7.same sD) (.cons (td7.same sD) (.cons (td7.same sD) .nil))))
    refine ⟨ld, _, rfl, DD, o1, o2, o3, o4, rfl, _, rfl, iteNS rfl ?_⟩
    have t18 := t17.same sD
    have t28 := t27.same sD
    have td8 := td7.same sD
    have tb8 := tb7.same sD
    have s08 := s07.trans sD
    generalize upd H10 ld (HO.lst [vd, vd, vd]) = H11 at t18 t28 td8 tb8 s08 ⊢
    clear DD DT BO o1 o2 o3 o4 sD t17 t27 td7 tb7 s07 hld
    -- what it leaves
    refine ⟨_, rfl, _, rfl, v1, vd, one, due, [], 23, 800, rfl, t18, td8, D1, fun p1 H12 s12 q1 => ⟨by show 0 ≤ sizeLine; decide, fun pe hpe => ?_⟩⟩
    have se := same_new (p := pe) (o := HO.tup []) hpe
    have te : Tp K (upd H12 pe (.tup [])) (.ref pe) [] := ⟨pe, rfl, SqT.of upd_same⟩
    refine ⟨_, _, (q1.same se).dp, te.dp, shaped_ints _, shaped_ints _, _, rfl, ?_⟩
    rw [eqv_ints, decide_eq_true (show shortL [] = [] from rfl)]
    refine iteF ?_
    have sA := s12.trans se
    have t19 := t18.same sA
    have t29 := t28.same sA
    have td9 := td8.same sA
    have tb9 := tb8.same sA
    have s09 := s08.trans sA
    generalize upd H12 pe (.tup []) = H13 at t19 t29 td9 tb9 s09 ⊢
    clear te se q1 sA s12 t18 t28 td8 tb8 s08 hpe
    refine ⟨_, rfl, _, rfl, v2, vd, two, due, [], 23, 800, rfl, t29, td9, D2, fun p1 H12 s12 q1 => ⟨by show 0 ≤ sizeLine; decide, fun pe hpe => ?_⟩⟩
    have se := same_new (p := pe) (o := HO.tup []) hpe
    have te : Tp K (upd H12 pe (.tup [])) (.ref pe) [] := ⟨pe, rfl, SqT.of upd_same⟩
    refine ⟨_, _, (q1.same se).dp, te.dp, shaped_ints _, shaped_ints _, _, rfl, ?_⟩
    rw [eqv_ints, decide_eq_true (show shortL [] = [] from rfl)]
    refine iteF ?_
    have sA := s12.trans se
    have t1a := t19.same sA
    have tda := td9.same sA
    have tba := tb9.same sA
    have s0a := s09.trans sA
    generalize upd H12 pe (.tup []) = H14 at t1a tda tba s0a ⊢
    clear te se q1 sA s12 t19 t29 td9 tb9 s09 hpe
    refine ⟨_, rfl, _, rfl, vd, vb, due, b, [], 800, 10, rfl, tda, tba, D3, fun p1 H12 s12 q1 => ⟨by show 0 ≤ sizeLine; decide, fun pe hpe => ?_⟩⟩
    have se := same_new (p := pe) (o := HO.tup []) hpe
    have te : Tp K (upd H12 pe (.tup [])) (.ref pe) [] := ⟨pe, rfl, SqT.of upd_same⟩
    refine ⟨_, _, (q1.same se).dp, te.dp, shaped_ints _, shaped_ints _, _, rfl, ?_⟩
    rw [eqv_ints, decide_eq_true (show shortL [] = [] from rfl)]
    refine iteF ?_
    have sA := s12.trans se
    have t1b := t1a.same sA
    have s0b := s0a.trans sA
    generalize upd H12 pe (.tup []) = H15 at t1b s0b ⊢
    clear te se q1 sA s12 t1a tda tba s0a hpe D1 D2 D3 dv1 dv2 eqd dB1 dB2 hE2 tg2 g20 lg2
    -- with nought, with itself
    have nT : Tr ([] : List Int) := by decide
    have nB : ∀ {n : Nat}, Bt n ([] : List Int) := fun z hz => (nomatch hz)
    have E1 : Ec 800 one [] one := .stop (m4.up (by decide))
    have pone := List.length_pos_iff.mpr m2
    have E2 : Ec 800 [] one one := .step (x := 0) (y := 23) (R := []) m2 nB m4 (by
      have : ([] : List Int).length + 1 - one.length = 0 := by show 0 + 1 - one.length = 0; omega
      rw [this]
      decide) (.stop pone) E1
    have E3 : Ec 800 [] [] [] := .stop nB
    have E4 : Ec 800 one one one := by
      obtain ⟨R, hR, _, _⟩ := rm_ex m1 m2 one.length one (Nat.le_refl _) m1
      have := dv_none (.self one) hR m2 m1 m1
      subst this
      refine .step (x := 23) (y := 23) (R := []) m2 m4 m4 ?_ hR E1
      have : one.length + 1 - one.length = 1 := by omega
      rw [this]
      decide
    obtain ⟨ow, eow⟩ : ∃ x, x = posL (shortL one) := ⟨_, rfl⟩
    have bow : Bt 800 ow := by rw [eow]; exact pos_bt ((m4.up (by decide)).short m1)
    have low : ow.length ≤ 9 := by rw [eow, pos_len, short_len]; exact lone
    have epn : posL (shortL []) = [] := by decide
    refine ⟨_, rfl, by show 0 ≤ sizeLine; decide, fun pe hpe => ?_⟩
    have se := same_new (p := pe) (o := HO.tup []) hpe
    refine ⟨v1, .ref pe, one, [], one, 800, rfl, t1b.same se, ⟨pe, rfl, SqT.of upd_same⟩, m1, nT, by omega, by decide, o9, nB, by decide, E1, fun vo H16 s16 to => ?_⟩
    rw [← eow] at to
    have sA := se.trans s16
    have t1c := t1b.same sA
    have s0c := s0b.trans sA
    clear sA s16 se hpe t1b s0b
    refine ⟨_, rfl, by show 0 ≤ sizeLine; decide, fun e1 h1 => ?_⟩
    have se1 := same_new (p := e1) (o := HO.tup []) h1
    refine ⟨v1, .ref e1, one, [], one, 800, rfl, t1c.same se1, ⟨e1, rfl, SqT.of upd_same⟩, m1, nT, by omega, by decide, o9, nB, by decide, E1, fun p1 H17 s17 q1 => ⟨by show 0 ≤ sizeLine; decide, fun e2 h2 => ?_⟩⟩
    have se2 := same_new (p := e2) (o := HO.tup []) h2
    have sB := se1.trans (s17.trans se2)
    refine ⟨_, rfl, .ref e2, v1, [], one, one, 800, rfl, ⟨e2, rfl, SqT.of upd_same⟩, t1c.same sB, nT, m1, by decide, by omega, nB, o9, by decide, E2, fun p2 H18 s18 q2 => ⟨by show 0 ≤ sizeLine; decide, fun e3 h3 => ⟨by show 0 ≤ sizeLine; decide, fun e4 h4 => ?_⟩⟩⟩
    have se3 := same_new (p := e3) (o := HO.tup []) h3
    have se4 := same_new (p := e4) (o := HO.tup []) h4
    refine ⟨.ref e3, .ref e4, [], [], [], 800, rfl, ⟨e3, rfl, same_sqT se4 (SqT.of upd_same)⟩, ⟨e4, rfl, SqT.of upd_same⟩, nT, nT, by decide, by decide, nB, nB, by decide, E3, fun p3 H19 s19 q3 => ?_⟩
    have sC := sB.trans (s18.trans (se3.trans (se4.trans s19)))
    refine ⟨_, rfl, _, rfl, v1, v1, one, one, one, 800, rfl, t1c.same sC, t1c.same sC, m1, m1, by omega, by omega, o9, o9, by decide, E4, fun p4 H20 s20 q4 => ⟨by show 4 ≤ sizeLine; decide, fun lt2 hlt2 => ?_⟩⟩
    rw [← eow] at q1 q2 q4
    rw [epn] at q3
    have sT := same_new (p := lt2) (o := HO.lst [p1, p2, p3, p4]) hlt2
    have DT := dp_list (K := K) (H := upd H20 lt2 (HO.lst [p1, p2, p3, p4])) upd_same (dpAll_tps (nss := [ow, ow, [], ow]) (.cons (q1.same (se2.trans (s18.trans (se3.trans (se4.trans (s19.trans (s20.trans sT))))))) (.cons (q2.same (se3.trans (se4.trans (s19.trans (s20.trans sT))))) (.cons (q3.same (s20.trans sT)) (.cons (q4.same sT) .nil)))))
    have BO : Big3 ([ow, ow, [], ow].map tupD) (10500 * 4) := ctups_ok (nss := [ow, ow, [], ow]) fun ns h => by
      simp only [List.mem_cons, List.not_mem_nil, or_false] at h
      rcases h with rfl | rfl | rfl | rfl
      · exact ⟨by omega, bow⟩
      · exact ⟨by omega, bow⟩
      · exact ⟨by decide, nB⟩
      · exact ⟨by omega, bow⟩
    obtain ⟨o1, o2, o3, o4⟩ := crep_facts BO (by decide)
    have sD := sC.trans (s20.trans sT)
    have t1d := t1c.same sD
    have tod := to.same sD
    have s0d := s0c.trans sD
    generalize upd H20 lt2 (HO.lst [p1, p2, p3, p4]) = H21 at DT t1d tod s0d ⊢
    clear sD sC sT s20 q1 q2 q3 q4 s19 se4 se3 s18 sB se2 s17 se1 t1c to s0c E1 E2 E3 E4
    refine ⟨_, rfl, lt2, _, rfl, DT, o1, o2, o3, o4, _, rfl, _, rfl, by show 0 ≤ sizeLine; decide, fun e5 h5 => ⟨_, rfl, by show 4 ≤ sizeLine; decide, fun ld hld => ?_⟩⟩
    have se5 := same_new (p := e5) (o := HO.tup []) h5
    have sL := same_new (p := ld) (o := HO.lst [vo, vo, .ref e5, vo]) hld
    have sM := se5.trans sL
    have x5 : Tp K (upd (upd H21 e5 (.tup [])) ld (.lst [vo, vo, .ref e5, vo])) (.ref e5) [] := ⟨e5, rfl, same_sqT sL (SqT.of upd_same)⟩
    have DD := dp_list (K := K) (H := upd (upd H21 e5 (.tup [])) ld (.lst [vo, vo, .ref e5, vo])) upd_same (dpAll_tps (nss := [ow, ow, [], ow]) (.cons (tod.same sM) (.cons (tod.same sM) (.cons x5 (.cons (tod.same sM) .nil)))))
    refine ⟨ld, _, rfl, DD, o1, o2, o3, o4, rfl, _, rfl, iteNS rfl ?_⟩
    have t1e := t1d.same sM
    have s0e := s0d.trans sM
    generalize upd (upd H21 e5 (.tup [])) ld (.lst [vo, vo, .ref e5, vo]) = H22 at t1e s0e ⊢
    clear DD x5 sM sL se5 tod t1d s0d DT BO o1 o2 o3 o4
    -- another row
    refine ⟨_, rfl, u, 5, rfl, s0e _ _ hu0, by decide, by decide, fun vc c H23 s23 tc RC lc bc => ?_⟩
    have t1f := t1e.same s23
    have s0f := s0e.trans s23
    have lc5 : c.length ≤ 5 := by omega
    have bc44 : Bt 44 c := fun z hz => Nat.lt_of_le_of_lt (bc z hz) (by decide)
    have Tc : Tr c := by
      by_cases c0 : c = []
      · rw [c0]; exact nT
      · intro e
        exact lastOk_ne RC.last c0 (by rw [List.getLast?_eq_some_getLast c0] at e; exact Option.some.inj e)
    have bc9 : Bt 9000 c := bc44.up (by decide)
    obtain ⟨g3, E5⟩ := third_ec m1 Tc (by omega) lc5 m4 bc44
    have b7 : Bt 23 [7] := fun z hz => by rw [List.mem_singleton.mp hz]; decide
    obtain ⟨g7, E6⟩ := third_ec (a := [7]) (by decide) Tc (by decide) lc5 b7 bc44
    have e7 := seven E6 Tc
    refine ⟨_, rfl, _, rfl, v1, vc, one, c, g3, 9000, rfl, t1f, tc, m1, Tc, by omega, by omega, o9, bc9, Nat.le_refl _, E5, fun p1 H24 s24 q1 => ⟨_, rfl, _, rfl, v1, vc, one, c, g3, 9000, rfl, t1f.same s24, tc.same s24, m1, Tc, by omega, by omega, o9, bc9, Nat.le_refl _, E5, fun p2 H25 s25 q2 => ⟨_, _, (q1.same s25).dp, q2.dp, shaped_ints _, shaped_ints _, _, rfl, ?_⟩⟩⟩
    rw [eqv_ints, decide_eq_true rfl, if_pos rfl]
    have s45 := s24.trans s25
    refine ⟨by show 1 ≤ sizeLine; decide, fun p7 h7 => ?_⟩
    have s7 := same_new (p := p7) (o := HO.tup [V.int 7]) h7
    refine ⟨_, rfl, .ref p7, vc, [7], c, g7, 9000, rfl, ⟨p7, rfl, SqT.of upd_same⟩, tc.same (s45.trans s7), by decide, Tc, by decide, by omega, b7.up (by decide), bc9, Nat.le_refl _, E6, fun p8 H26 s26 q8 => ⟨by show 1 ≤ sizeLine; decide, fun p9 h9 => ?_⟩⟩
    rw [e7] at q8
    have s9 := same_new (p := p9) (o := HO.tup [V.int 1]) h9
    have t9 : Tp K (upd H26 p9 (.tup [V.int 1])) (.ref p9) [1] := ⟨p9, rfl, SqT.of upd_same⟩
    refine ⟨_, _, (q8.same s9).dp, t9.dp, shaped_ints _, shaped_ints _, ?_⟩
    rw [eqv_ints, decide_eq_true rfl]
    exact q _ (s0f.trans (s45.trans (s7.trans (s26.trans s9))))
end
end K6

namespace K6
open PySem L2 Ur
section
variable {P : Program} {w : World} {K :
      PySem.W.Frag} {mg : Str → Option Value} {base : Heap}
abbrev n_law : List Str := ["_law_script", "_law_turn"]
abbrev p_law : List Str := ["_law_script"]
theorem sc_law : FnScope n_law p_law (defScope sLaw) := ⟨rfl, rfl, rfl, by decide +kernel, rfl, by decide +kernel, by decide +kernel⟩
def spLaw (K : PySem.W.Frag) : Sp := fun vs H Q _ => ∃ (a : Addr) (ns : List Int), vs = [.ref a] ∧ SqL K H a (ns.map V.int) ∧ ∀ H' : Hp, Q (.bl true) H'
theorem ok_law {f : Addr} {fd : FuncData} (F : Fun K "law" "law" sLaw f fd) (T : Bl mg) (H_law_pot : Has P w K mg base "_law_pot" p_pot 1 (spPot K))
    (HG_law_right : HasG P w K mg base "_law_right" p_law_right 7 spRight) : FnG P w K mg base CX0 8 f fd p_law (spLaw K) := by
  refine okG F sc_law (fun vs H Q E h => ?_) (fun cdv A outer s H vs Q E hg hr h => ?_)
  · obtain ⟨a, ns, rfl, _⟩ := h
    rfl
  · obtain ⟨a, ns, rfl, hS, q⟩ := h
    refine ⟨_, (pss_one (ps_ret (pe_callB (cr_all rfl) (by rfl) T.all PyProof.Rows.boot_all (pa_cons (pe_lc (own := [("_law_turn", 1)]) (g := gName 1) (tt := tYes) rfl sc_law.nd (pi_range1 (by rfl) T.range (pa_cons (pe_callB (call_max2 rfl) (by rfl) T.max PyProof.Rows.boot_max (pa_cons pe_int (pa_cons (pe_callB (call_min2 rfl) (by rfl) T.min PyProof.Rows.boot_min (pa_cons (pe_callB (r := rLen K) len_seq (by rfl) T.len PySem.boot_len (pa_cons (pv 0) pa_nil)) (pa_cons pe_int pa_nil))) pa_nil))) pa_nil)) (blkOk_by (N := n_law) (sc := defScope sLaw) (by decide +kernel)) (fun _ _ _ _ _ => pg_name (i := 1) sc_law.nd rfl (Or.inl rfl)) (fun _ _ _ _ _ => pts_nil) (fun _ _ _ _ _ => (pe_hasG HG_law_right hg (hr.mono (by decide)) (by rfl) (pa_cons (pe_shutP (pe_has H_law_pot (hr.mono (by decide)) (by rfl) (pa_cons (pv 0) (pa_cons (pv 1) pa_nil)))) pa_nil)))) pa_nil)))), ?_⟩
    unfold tRet tCB tCons tNil
    dsimp only
    refine lcRn (fun n => 2 ≤ n ∧ n ≤ 4) (fun n i y => y = .bl true) (fun R r => ?_) (fun n hn => ⟨by omega, by omega⟩) (fun x => rfl) (fun n i H3 hn hi sm Q' q' => ?_) (fun n D ys H2 hn hD s2 hy e1 e2 => ?_)
    · refine ⟨_, rfl, a, _, rfl, Or.inl hS, _, _, rfl, _, _, rfl, r _ H ⟨?_, ?_⟩ (Same.refl _)⟩
      · split <;> split at * <;> omega
      · split <;> split at * <;> omega
    · refine ⟨_, rfl, _, rfl, a, ns, _, rfl, sm.seq hS, by omega, by omega, fun p x y z H5 hp s5 B hy => ⟨p, rfl, x, y, z, B, hy, p, rfl, upd_same, fun H6 s6 => q' _ _ rfl ((same_own s5 hp).trans s6)⟩⟩
    · have ey : ys = (List.replicate ys.length true).map V.bl := by
        apply List.ext_getElem?
        intro i
        cases h : ys[i]? with
        | none =>
          have := List.getElem?_eq_none_iff.mp h
          rw [List.getElem?_eq_none (by simpa using this)]
        | some y =>
          have hl := (List.getElem?_eq_some_iff.mp h).1
          obtain rfl := e2 i y h
          rw [List.getElem?_map, List.getElem?_replicate, if_pos hl]
          rfl
      rw [ey] at hy
      refine ⟨D, List.replicate ys.length true, rfl, SqL.of hy, ?_⟩
      have e3 : (List.replicate ys.length true).all id = true := by simp
      rw [e3]
      exact q _
end
end K6

namespace Ur
open PySem L2
def FndR (K : PySem.W.Frag) (mg : Str → Option Value) (x : Str) (st : Stmt) (ps : List Str) : Prop :=
  ∃ f fd, Fun K x x st f fd ∧ mg x = some (.ref f) ∧ Binds K fd ps [] ∧ ∀ (s : Shared) (ws : List Value), ws.length = ps.length → BindsTo s fd ⟨[], ps.reverse.zip ws⟩ (ps.zip ws.reverse)
def FndN (K : PySem.W.Frag) (mg : Str → Option Value) (x : Str) (st : Stmt) (ps : List Str) : Prop :=
  ∃ f fd, Fun K x x st f fd ∧ mg x = some (.ref f) ∧ Binds K fd ps [] ∧ KBn K fd ps 1 ["fraction", "other"] (fun us ws => us ++ ws.reverse) (fun vs zs => vs ++ zs.reverse)
section
variable {P : Program} {w : World} {K : PySem.W.Frag} {mg : Str → Option Value} {base : Heap} {x : Str} {st : Stmt} {ps : List Str} {k : Nat} {sp : Sp}
theorem FndR.fnd (D : FndR K mg x st ps) : Fnd K mg x st ps := by
  obtain ⟨f, fd, F, m, b, _⟩ := D
  exact ⟨f, fd, F, m, b⟩
theorem FndN.fnd (D : FndN K mg x st ps) : Fnd K mg x st ps := by
  obtain ⟨f, fd, F, m, b, _⟩ := D
  exact ⟨f, fd, F, m, b⟩
theorem FndR.hasR (D : FndR K mg x st ps) (h : ∀ {f fd}, Fun K x x st f fd → FnOk P w K mg base CX0 k f fd ps sp) : HasR P w K mg base x ps k sp := by
  obtain ⟨f, fd, F, m, _, b⟩ := D
  exact ⟨f, fd, h F, m, F.kp, fun s ws _ hl => b s ws hl⟩
theorem FndN.hasN (D : FndN K mg x st ps) (h : ∀ {f fd}, Fun K x x st f fd → FnOk P w K mg base CX0 k f fd ps sp) : HasN P w K mg base x ps 1 ["fraction", "other"] k sp := by
  obtain ⟨f, fd, F, m, _, b⟩ := D
  exact ⟨f, fd, h F, m, F.kp, b⟩
end
section
variable {K : PySem.W.Frag} {h : Heap} {mg : Str → Option Value} {x : Str} {st : Stmt} {ps : List Str} {f : Addr} {oc kV dc pm cd ct : Value} {od an : Option Addr} {sl : Array (Option Value)}
theorem fndR_mk (X : K.In h) (G : h.Ns mainGlobals mg) (a : PySem.W.nsIn K mainGlobals x = some (some (.ref f))) (l : K.lookup f = some ⟨oc, od, .func (PySem.W.fnOf x x (defArgs st) (defBody st) (defScope st) .none kV dc pm an cd ct), sl⟩)
    (c : PySem.W.codeIn K cd x = true) (k : PySem.W.keepIn K (.ref f) = true)
    (hb : ∀ (kV doc pm : Value) (an : Option Addr) (cdv ct : Value) (us : List Value), us.length = ps.length → bindArgs (PySem.W.fnOf x x (defArgs st) (defBody st) (defScope st) .none kV doc pm an cdv ct) ⟨us, []⟩ = pure (ps.zip us))
    (hk : ∀ (kV doc pm : Value) (an : Option Addr) (cdv ct : Value) (ws : List Value), ws.length = ps.length → bindArgs (PySem.W.fnOf x x (defArgs st) (defBody st) (defScope st) .none kV doc pm an cdv ct) ⟨[], ps.reverse.zip ws⟩ = pure (ps.zip ws.reverse)) : FndR K mg x st ps := by
  have F := fun_mk l c k
  exact ⟨f, _, F, PySem.W.mg_of X G a, F.binds hb, fun s ws hl => .of_eq (hk _ _ _ _ _ _ ws hl)⟩
theorem fndN_mk (X : K.In h) (G : h.Ns mainGlobals mg) (a : PySem.W.nsIn K mainGlobals x = some (some (.ref f))) (l : K.lookup f = some ⟨oc, od, .func (PySem.W.fnOf x x (defArgs st) (defBody st) (defScope st) .none kV dc pm an cd ct), sl⟩)
    (c : PySem.W.codeIn K cd x = true) (k : PySem.W.keepIn K (.ref f) = true)
    (hb : ∀ (kV doc pm : Value) (an : Option Addr) (cdv ct : Value) (us : List Value), us.length = ps.length → bindArgs (PySem.W.fnOf x x (defArgs st) (defBody st) (defScope st) .none kV doc pm an cdv ct) ⟨us, []⟩ = pure (ps.zip us))
    (hk : ∀ (kV doc pm : Value) (an : Option Addr) (cdv ct : Value) (us ws : List Value), us.length = 1 → ws.length = 2 → bindArgs (PySem.W.fnOf x x (defArgs st) (defBody st) (defScope st) .none kV doc pm an cdv ct) ⟨us, List.zip ["fraction", "other"] ws⟩ = pure (ps.zip (us ++ ws.reverse))) : FndN K mg x st ps := by
  have F := fun_mk l c k
  exact ⟨f, _, F, PySem.W.mg_of X G a, F.binds hb, ⟨fun s us ws _ h1 h2 => .of_eq (hk _ _ _ _ _ _ us ws h1 h2), fun r rz => r.append (vals_rev rz)⟩⟩
end
end Ur
namespace K6
open PySem L2 Ur
section
variable {P : Program} {w : World} {K :
      PySem.W.Frag} {mg : Str → Option Value} {base : Heap}
theorem all_ok {f : Addr} {fd : FuncData} (F : Fun K "law" "law" sLaw f fd) (T : Bl mg) (mG : mg "gcd" = some (.builtin "math.gcd"))
    (D0 : Ur.Fnd K mg "sign_of" sSign K6.p_num) (D1 : Ur.Fnd K mg "common_divisor" sCom K6.p_common_divisor) (D2 : Ur.Fnd K mg "is_whole" sWhole K6.n_is_whole) (D3 : Ur.Fnd K mg "wholes_fit" sWholes K6.p_wholes_fit) (D4 : Ur.Fnd K mg "numbers_fit" sNumsF K6.n_value) (D5 : Ur.Fnd K mg "row_fits" sRowF K6.n_value) (D6 : Ur.Fnd K mg "check_row" sChkR K6.n_value) (D7 : Ur.Fnd K mg "trimmed" sTrim K6.p_trimmed) (D8 : Ur.Fnd K mg "row_by" sRBy K6.p_rby) (D9 : Ur.Fnd K mg "row_shortest" sRShort K6.p_r) (D10 : Ur.Fnd K mg "row_division" sRDiv K6.p_ro) (D11 : Ur.Fnd K mg "row_remainder" sRRem K6.p_ro) (D12 : Ur.Fnd K mg "row_common" sRCom K6.p_ro) (D13 : Ur.Fnd K mg "remainder" sRemn K6.p_ro) (D14 : Ur.FndR K mg "common_factor" sComF K6.p_ro) (D15 : Ur.Fnd K mg "_law_pot" sPot K6.p_pot) (D16 : Ur.Fnd K mg "_law_draw" sDraw K6.pDraw) (D17 : Ur.Fnd K mg "_law_of" sOf K6.p_of) (D18 : Ur.Fnd K mg "_law_from" sFrom K6.p_from) (D19 : Ur.Fnd K mg "_law_common" sLCom K6.p_lcom) (D20 : Ur.Fnd K mg "_law_short" sLShort K6.p_some) (D21 : Ur.Fnd K mg "_law_trim" sLTrim K6.p_some) (D22 : Ur.Fnd K mg "_law_multiplied" sLMult K6.p_lot) (D23 : Ur.Fnd K mg "_law_rest" sLRest K6.p_lot) (D24 : Ur.Fnd K mg "_law_row" sLRow K6.p_lrow) (D25 : Ur.Fnd K mg "_law_shared" sShared K6.p_lot) (D26 : Ur.Fnd K mg "_law_factors" sFactors K6.p_lfactors) (D27 : Ur.Fnd K mg "_law_right" sRight K6.p_law_right) :
    FnG P w K mg base CX0 8 f fd p_law (spLaw K) := by
  have h_sign_of : Has P w K mg base "sign_of" K6.p_num 1 spSgn := D0.has fun F => ok_sign F 
  have h_common_divisor : Has P w K mg base "common_divisor" K6.p_common_divisor 1 (spCom K) := D1.has fun F => ok_com F mG
  have h_is_whole : Has P w K mg base "is_whole" K6.n_is_whole 1 (spWhole K) := D2.has fun F => ok_whole F T
  have h_wholes_fit : Has P w K mg base "wholes_fit" K6.p_wholes_fit 2 (spTold K fun xs => xs.all wh) := D3.has fun F => ok_wholes F T h_is_whole
  have h_numbers_fit : Has P w K mg base "numbers_fit" K6.n_value 3 (spTold K isNums) := D4.has fun F => ok_numsF F T h_wholes_fit
  have h_row_fits : Has P w K mg base "row_fits" K6.n_value 4 (spTold K isRw) := D5.has fun F => ok_rowF F h_numbers_fit
  have h_check_row : Has P w K mg base "check_row" K6.n_value 5 (spChk K isRw) := D6.has fun F => ok_chkR F h_row_fits
  have h_trimmed : Has P w K mg base "trimmed" K6.p_trimmed 1 (spTrim K) := D7.has fun F => ok_trim F T
  have h_row_by : Has P w K mg base "row_by" K6.p_rby 2 (spBy K) := D8.has fun F => ok_rby F h_trimmed
  have h_row_shortest : Has P w K mg base "row_shortest" K6.p_r 2 (spSh K) := D9.has fun F => ok_rshort9 F T h_common_divisor
  have h_row_division : Has P w K mg base "row_division" K6.p_ro 2 (spDiv K) := D10.has fun F => ok_rdiv F T mG h_sign_of h_trimmed
  have h_row_remainder : Has P w K mg base "row_remainder" K6.p_ro 3 (spRemn K) := D11.has fun F => ok_rrem F h_row_shortest h_row_division
  have h_row_common : Has P w K mg base "row_common" K6.p_ro 4 (spCF K) := D12.has fun F => ok_rcom F h_row_shortest h_row_remainder h_row_by
  have h_remainder : Has P w K mg base "remainder" K6.p_ro 6 (spRemn K) := D13.has fun F => ok_remn F h_check_row h_row_remainder
  have h_common_factor : Has P w K mg base "common_factor" K6.p_ro 6 (spCF K) := D14.fnd.has fun F => ok_comf F h_check_row h_row_common
  have r_common_factor : HasR P w K mg base "common_factor" K6.p_ro 6 (spCF K) := D14.hasR fun F => ok_comf F h_check_row h_row_common
  have h__law_pot : Has P w K mg base "_law_pot" K6.p_pot 1 (spPot K) := D15.has fun F => ok_pot F T
  have h__law_draw : Has P w K mg base "_law_draw" K6.pDraw 1 spDraw := D16.has fun F => ok_draw F T
  have h__law_of : Has P w K mg base "_law_of" K6.p_of 2 spOf := D17.has fun F => ok_of F T h__law_draw
  have h__law_from : Has P w K mg base "_law_from" K6.p_from 2 spFrom := D18.has fun F => ok_from F h__law_draw
  have h__law_common : Has P w K mg base "_law_common" K6.p_lcom 1 (spLCom K) := D19.has fun F => ok_lcom F T
  have h__law_short : Has P w K mg base "_law_short" K6.p_some 2 (spLSh K) := D20.has fun F => ok_lshort9 F T h__law_common
  have h__law_trim : Has P w K mg base "_law_trim" K6.p_some 1 (spLTrim K) := D21.has fun F => ok_ltrim F T
  have h__law_multiplied : Has P w K mg base "_law_multiplied" K6.p_lot 2 (spMul3 K) := D22.has fun F => ok_lmult3 F T h__law_trim
  have h__law_rest : Has P w K mg base "_law_rest" K6.p_lot 3 (spRest K) := D23.has fun F => ok_lrest F T h__law_short
  have h__law_row : Has P w K mg base "_law_row" K6.p_lrow 3 (spLRow K) := D24.has fun F => ok_lrow F T h__law_of h__law_from h__law_draw h__law_trim
  have h__law_shared : Has P w K mg base "_law_shared" K6.p_lot 4 (spCF K) := D25.has fun F => ok_lshared F T h__law_short h__law_rest
  have h__law_factors : Has P w K mg base "_law_factors" K6.p_lfactors 3 (spFactors K) := D26.has fun F => ok_lfactors F T h__law_of h__law_draw h__law_multiplied
  have h__law_right : HasG P w K mg base "_law_right" K6.p_law_right 7 spRight := D27.hasG fun F => ok_right F T h__law_factors h__law_row h__law_multiplied h__law_shared h_remainder h_common_factor r_common_factor
  exact ok_law F T h__law_pot h__law_right
end
theorem walk6 {l : PySem.W.OpenLaw} {q : Program} {loose : List Str} {XP : (Str → Option Value) → Heap → Prop} {YP : World → Heap → Prop} {d : DefRec} {K : Params → PySem.W.Frag} (hn : l.most = some 63) (hdf : d.params.defaults = [])
    (hY : ∀ (w : World) (h : Heap),
          YP w h → (K w.params).In h)
    (F : ∀ (w : World) (mg : Str → Option Value) (fa : Addr) (h : Heap),
          (K w.params).In h → h.Ns mainGlobals mg → mg d.name = some (.ref fa) →
      ∃ fd : FuncData, (∀ (s : Shared) (u : Value), BindsTo s fd ⟨[u], []⟩ [("_law_script", u)]) ∧ ∀ base : Heap, (K w.params).In base → base.Ns mainGlobals mg → FnG l.prog w (K w.params) mg base CX0 8 fa fd p_law (spLaw (K w.params))) :
    PySem.W.WalkO q loose XP YP l.row.toRowW
          d [] (fun f vs => PySem.call f vs) :=
  walkG (n := 63) (k := 8) (x := "_law_script") (sp := fun K => spLaw K) hn (by decide) hdf ⟨rfl, by decide, by decide⟩ hY F fun _ _ a ns _ hS => ⟨a, ns, rfl, hS, fun _ => rfl⟩
theorem law_mk {l : PySem.W.OpenLaw} {w : World} {K : PySem.W.Frag} {h : Heap} {mg : Str → Option Value} {fa f1 : Addr} (X : K.In h) (G : h.Ns mainGlobals mg) (hfa : mg "law" = some (.ref fa))
    {oc kV dc pm cd ct : Value} {od an : Option Addr} {sl : Array (Option Value)} (a : PySem.W.nsIn K mainGlobals "law" = some (some (.ref f1)))
    (lk : K.lookup f1 = some ⟨oc, od, .func (PySem.W.fnOf "law" "law" (defArgs sLaw) (defBody sLaw) (defScope sLaw) .none kV dc pm an cd ct), sl⟩) (c : PySem.W.codeIn K cd "law" = true) (k : PySem.W.keepIn K (.ref f1) = true)
    (ok : ∀ (base : Heap) (fd : FuncData), Fun K "law" "law" sLaw f1 fd → FnG l.prog w K mg base CX0 8 f1 fd p_law (spLaw K)) :
    ∃ fd : FuncData, (∀ (s : Shared) (u : Value), BindsTo s fd ⟨[u], []⟩ [("_law_script", u)]) ∧ ∀ base : Heap, K.In base → base.Ns mainGlobals mg → FnG l.prog w K mg base CX0 8 fa fd p_law (spLaw K) := by
  obtain rfl : fa = f1 := by
    have e := hfa.symm.trans (PySem.W.mg_of X G a)
    cases e
    rfl
  exact ⟨_, fun s u => .of_eq rfl, fun base _ _ => ok base _ (fun_mk lk c k)⟩
theorem law_all {l : PySem.W.OpenLaw} {w : World} {K : PySem.W.Frag} {h : Heap} {mg : Str → Option Value} {fa f1 : Addr} (X : K.In h) (G : h.Ns mainGlobals mg) (hfa : mg "law" = some (.ref fa)) (T : Bl mg) (mG : mg "gcd" = some (.builtin "math.gcd"))
    (D0 : Ur.Fnd K mg "sign_of" sSign K6.p_num) (D1 : Ur.Fnd K mg "common_divisor" sCom K6.p_common_divisor) (D2 : Ur.Fnd K mg "is_whole" sWhole K6.n_is_whole) (D3 : Ur.Fnd K mg "wholes_fit" sWholes K6.p_wholes_fit) (D4 : Ur.Fnd K mg "numbers_fit" sNumsF K6.n_value) (D5 : Ur.Fnd K mg "row_fits" sRowF K6.n_value) (D6 : Ur.Fnd K mg "check_row" sChkR K6.n_value) (D7 : Ur.Fnd K mg "trimmed" sTrim K6.p_trimmed) (D8 : Ur.Fnd K mg "row_by" sRBy K6.p_rby) (D9 : Ur.Fnd K mg "row_shortest" sRShort K6.p_r) (D10 : Ur.Fnd K mg "row_division" sRDiv K6.p_ro) (D11 : Ur.Fnd K mg "row_remainder" sRRem K6.p_ro) (D12 : Ur.Fnd K mg "row_common" sRCom K6.p_ro) (D13 : Ur.Fnd K mg "remainder" sRemn K6.p_ro) (D14 : Ur.FndR K mg "common_factor" sComF K6.p_ro) (D15 : Ur.Fnd K mg "_law_pot" sPot K6.p_pot) (D16 : Ur.Fnd K mg "_law_draw" sDraw K6.pDraw) (D17 : Ur.Fnd K mg "_law_of" sOf K6.p_of) (D18 : Ur.Fnd K mg "_law_from" sFrom K6.p_from) (D19 : Ur.Fnd K mg "_law_common" sLCom K6.p_lcom) (D20 : Ur.Fnd K mg "_law_short" sLShort K6.p_some) (D21 : Ur.Fnd K mg "_law_trim" sLTrim K6.p_some) (D22 : Ur.Fnd K mg "_law_multiplied" sLMult K6.p_lot) (D23 : Ur.Fnd K mg "_law_rest" sLRest K6.p_lot) (D24 : Ur.Fnd K mg "_law_row" sLRow K6.p_lrow) (D25 : Ur.Fnd K mg "_law_shared" sShared K6.p_lot) (D26 : Ur.Fnd K mg "_law_factors" sFactors K6.p_lfactors) (D27 : Ur.Fnd K mg "_law_right" sRight K6.p_law_right)
    {oc kV dc pm cd ct : Value} {od an : Option Addr} {sl : Array (Option Value)} (a : PySem.W.nsIn K mainGlobals "law" = some (some (.ref f1)))
    (lk : K.lookup f1 = some ⟨oc, od, .func (PySem.W.fnOf "law" "law" (defArgs sLaw) (defBody sLaw) (defScope sLaw) .none kV dc pm an cd ct), sl⟩) (c : PySem.W.codeIn K cd "law" = true) (k : PySem.W.keepIn K (.ref f1) = true) :
    ∃ fd : FuncData, (∀ (s : Shared) (u : Value), BindsTo s fd ⟨[u], []⟩ [("_law_script", u)]) ∧ ∀ base : Heap, K.In base → base.Ns mainGlobals mg → FnG l.prog w K mg base CX0 8 fa fd p_law (spLaw K) :=
  law_mk X G hfa a lk c k fun base fd F => all_ok F T mG D0 D1 D2 D3 D4 D5 D6 D7 D8 D9 D10 D11 D12 D13 D14 D15 D16 D17 D18 D19 D20 D21 D22 D23 D24 D25 D26 D27
end K6

open PySem PySem.W
      PyProof.Rows
set_option
      maxRecDepth 100000 in
set_option maxHeartbeats 0 in
theorem PySem.Challenge.cw_hullrests_k36_whole_common_factors_holds : PySem.Challenge.rw_hullrests_k36_whole_common_factors.Holds := by
  w_on; o_law; k_head;
        (case hw => w_witness2)
  k_fill
  refine K6.walk6 (l := PySem.Challenge.rw_hullrests_k36_whole_common_factors) rfl rfl (fun w h Y => PySem.W.kIn_of Y) ?F
  case F =>
    intro w mg fa h KX G hmg
    have T : K6.Bl mg := by
      refine' ⟨PySem.W.mg_none_of KX G ?_, PySem.W.mg_none_of KX G ?_, PySem.W.mg_none_of KX G ?_, PySem.W.mg_none_of KX G ?_, PySem.W.mg_none_of KX G ?_, PySem.W.mg_none_of KX G ?_, PySem.W.mg_none_of KX G ?_, PySem.W.mg_none_of KX G ?_, PySem.W.mg_none_of KX G ?_, PySem.W.mg_none_of KX G ?_, PySem.W.mg_none_of KX G ?_, PySem.W.mg_none_of KX G ?_, PySem.W.mg_none_of KX G ?_, PySem.W.mg_none_of KX G ?_, PySem.W.mg_none_of KX G ?_, PySem.W.mg_none_of KX G ?_⟩ <;> k_is
    have mG : mg "gcd" = some (.builtin "math.gcd") := by
      refine' PySem.W.mg_of KX G ?_
      k_is
    refine' K6.law_all KX G hmg T mG
      (Ur.fnd_mk (x := "sign_of") (st := K6.sSign) (ps := K6.p_num) KX G ?a0 ?l0 ?c0 ?k0 (fun _ _ _ _ _ _ us hl => match us, hl with | [_], _ => rfl))
      (Ur.fnd_mk (x := "common_divisor") (st := K6.sCom) (ps := K6.p_common_divisor) KX G ?a1 ?l1 ?c1 ?k1 (fun _ _ _ _ _ _ us hl => match us, hl with | [_], _ => rfl))
      (Ur.fnd_mk (x := "is_whole") (st := K6.sWhole) (ps := K6.n_is_whole) KX G ?a2 ?l2 ?c2 ?k2 (fun _ _ _ _ _ _ us hl => match us, hl with | [_], _ => rfl))
      (Ur.fnd_mk (x := "wholes_fit") (st := K6.sWholes) (ps := K6.p_wholes_fit) KX G ?a3 ?l3 ?c3 ?k3 (fun _ _ _ _ _ _ us hl => match us, hl with | [_], _ => rfl))
      (Ur.fnd_mk (x := "numbers_fit") (st := K6.sNumsF) (ps := K6.n_value) KX G ?a4 ?l4 ?c4 ?k4 (fun _ _ _ _ _ _ us hl => match us, hl with | [_], _ => rfl))
      (Ur.fnd_mk (x := "row_fits") (st := K6.sRowF) (ps := K6.n_value) KX G ?a5 ?l5 ?c5 ?k5 (fun _ _ _ _ _ _ us hl => match us, hl with | [_], _ => rfl))
      (Ur.fnd_mk (x := "check_row") (st := K6.sChkR) (ps := K6.n_value) KX G ?a6 ?l6 ?c6 ?k6 (fun _ _ _ _ _ _ us hl => match us, hl with | [_], _ => rfl))
      (Ur.fnd_mk (x := "trimmed") (st := K6.sTrim) (ps := K6.p_trimmed) KX G ?a7 ?l7 ?c7 ?k7 (fun _ _ _ _ _ _ us hl => match us, hl with | [_], _ => rfl))
      (Ur.fnd_mk (x := "row_by") (st := K6.sRBy) (ps := K6.p_rby) KX G ?a8 ?l8 ?c8 ?k8 (fun _ _ _ _ _ _ us hl => match us, hl with | [_, _], _ => rfl))
      (Ur.fnd_mk (x := "row_shortest") (st := K6.sRShort) (ps := K6.p_r) KX G ?a9 ?l9 ?c9 ?k9 (fun _ _ _ _ _ _ us hl => match us, hl with | [_], _ => rfl))
      (Ur.fnd_mk (x := "row_division") (st := K6.sRDiv) (ps := K6.p_ro) KX G ?a10 ?l10 ?c10 ?k10 (fun _ _ _ _ _ _ us hl => match us, hl with | [_, _], _ => rfl))
      (Ur.fnd_mk (x := "row_remainder") (st := K6.sRRem) (ps := K6.p_ro) KX G ?a11 ?l11 ?c11 ?k11 (fun _ _ _ _ _ _ us hl => match us, hl with | [_, _], _ => rfl))
      (Ur.fnd_mk (x := "row_common") (st := K6.sRCom) (ps := K6.p_ro) KX G ?a12 ?l12 ?c12 ?k12 (fun _ _ _ _ _ _ us hl => match us, hl with | [_, _], _ => rfl))
      (Ur.fnd_mk (x := "remainder") (st := K6.sRemn) (ps := K6.p_ro) KX G ?a13 ?l13 ?c13 ?k13 (fun _ _ _ _ _ _ us hl => match us, hl with | [_, _], _ => rfl))
      (Ur.fndR_mk (x := "common_factor") (st := K6.sComF) (ps := K6.p_ro) KX G ?a14 ?l14 ?c14 ?k14 (fun _ _ _ _ _ _ us hl => match us, hl with | [_, _], _ => rfl) (fun _ _ _ _ _ _ ws hl => match ws, hl with | [_, _], _ => rfl))
      (Ur.fnd_mk (x := "_law_pot") (st := K6.sPot) (ps := K6.p_pot) KX G ?a15 ?l15 ?c15 ?k15 (fun _ _ _ _ _ _ us hl => match us, hl with | [_, _], _ => rfl))
      (Ur.fnd_mk (x := "_law_draw") (st := K6.sDraw) (ps := K6.pDraw) KX G ?a16 ?l16 ?c16 ?k16 (fun _ _ _ _ _ _ us hl => match us, hl with | [_, _], _ => rfl))
      (Ur.fnd_mk (x := "_law_of") (st := K6.sOf) (ps := K6.p_of) KX G ?a17 ?l17 ?c17 ?k17 (fun _ _ _ _ _ _ us hl => match us, hl with | [_, _], _ => rfl))
      (Ur.fnd_mk (x := "_law_from") (st := K6.sFrom) (ps := K6.p_from) KX G ?a18 ?l18 ?c18 ?k18 (fun _ _ _ _ _ _ us hl => match us, hl with | [_, _, _], _ => rfl))
      (Ur.fnd_mk (x := "_law_common") (st := K6.sLCom) (ps := K6.p_lcom) KX G ?a19 ?l19 ?c19 ?k19 (fun _ _ _ _ _ _ us hl => match us, hl with | [_], _ => rfl))
      (Ur.fnd_mk (x := "_law_short") (st := K6.sLShort) (ps := K6.p_some) KX G ?a20 ?l20 ?c20 ?k20 (fun _ _ _ _ _ _ us hl => match us, hl with | [_], _ => rfl))
      (Ur.fnd_mk (x := "_law_trim") (st := K6.sLTrim) (ps := K6.p_some) KX G ?a21 ?l21 ?c21 ?k21 (fun _ _ _ _ _ _ us hl => match us, hl with | [_], _ => rfl))
      (Ur.fnd_mk (x := "_law_multiplied") (st := K6.sLMult) (ps := K6.p_lot) KX G ?a22 ?l22 ?c22 ?k22 (fun _ _ _ _ _ _ us hl => match us, hl with | [_, _], _ => rfl))
      (Ur.fnd_mk (x := "_law_rest") (st := K6.sLRest) (ps := K6.p_lot) KX G ?a23 ?l23 ?c23 ?k23 (fun _ _ _ _ _ _ us hl => match us, hl with | [_, _], _ => rfl))
      (Ur.fnd_mk (x := "_law_row") (st := K6.sLRow) (ps := K6.p_lrow) KX G ?a24 ?l24 ?c24 ?k24 (fun _ _ _ _ _ _ us hl => match us, hl with | [_, _], _ => rfl))
      (Ur.fnd_mk (x := "_law_shared") (st := K6.sShared) (ps := K6.p_lot) KX G ?a25 ?l25 ?c25 ?k25 (fun _ _ _ _ _ _ us hl => match us, hl with | [_, _], _ => rfl))
      (Ur.fnd_mk (x := "_law_factors") (st := K6.sFactors) (ps := K6.p_lfactors) KX G ?a26 ?l26 ?c26 ?k26 (fun _ _ _ _ _ _ us hl => match us, hl with | [_], _ => rfl))
      (Ur.fnd_mk (x := "_law_right") (st := K6.sRight) (ps := K6.p_law_right) KX G ?a27 ?l27 ?c27 ?k27 (fun _ _ _ _ _ _ us hl => match us, hl with | [_], _ => rfl))
      ?a ?l ?c ?k
    (case a0 => k_is); (case l0 => k_is); (case c0 => k_is); (case k0 => k_is)
    (case a1 => k_is); (case l1 => k_is);
          (case c1 => k_is); (case k1 => k_is)
    (case a2 => k_is); (case l2 => k_is);
          (case c2 => k_is); (case k2 => k_is)
    (case a3 => k_is); (case l3 => k_is);
          (case c3 => k_is); (case k3 => k_is)
    (case a4 => k_is); (case l4 => k_is);
          (case c4 => k_is); (case k4 => k_is)
    (case a5 => k_is); (case l5 => k_is); (case c5 => k_is); (case k5 => k_is)
    (case a6 => k_is); (case l6 => k_is); (case c6 => k_is); (case k6 => k_is)
    (case a7 => k_is); (case l7 => k_is); (case c7 => k_is); (case k7 => k_is)
    (case a8 => k_is); (case l8 => k_is); (case c8 => k_is); (case k8 => k_is)
    (case a9 => k_is); (case l9 => k_is); (case c9 => k_is); (case k9 => k_is)
    (case a10 => k_is); (case l10 => k_is); (case c10 => k_is); (case k10 => k_is)
    (case a11 => k_is); (case l11 => k_is); (case c11 => k_is); (case k11 => k_is)
    (case a12 => k_is); (case l12 => k_is); (case c12 => k_is); (case k12 => k_is)
    (case a13 => k_is); (case l13 => k_is); (case c13 => k_is); (case k13 => k_is)
    (case a14 => k_is); (case l14 => k_is); (case c14 => k_is); (case k14 => k_is)
    (case a15 => k_is); (case l15 => k_is); (case c15 => k_is); (case k15 => k_is)
    (case a16 => k_is); (case l16 => k_is); (case c16 => k_is); (case k16 => k_is)
    (case a17 => k_is); (case l17 => k_is); (case c17 => k_is); (case k17 => k_is)
    (case a18 => k_is); (case l18 => k_is); (case c18 => k_is); (case k18 => k_is)
    (case a19 => k_is); (case l19 => k_is); (case c19 => k_is); (case k19 => k_is)
    (case a20 => k_is); (case l20 => k_is); (case c20 => k_is); (case k20 => k_is)
    (case a21 => k_is); (case l21 => k_is); (case c21 => k_is); (case k21 => k_is)
    (case a22 => k_is); (case l22 => k_is); (case c22 => k_is); (case k22 => k_is)
    (case a23 => k_is); (case l23 => k_is); (case c23 => k_is); (case k23 => k_is)
    (case a24 => k_is); (case l24 => k_is); (case c24 => k_is); (case k24 => k_is)
    (case a25 => k_is); (case l25 => k_is); (case c25 => k_is); (case k25 => k_is)
    (case a26 => k_is); (case l26 => k_is); (case c26 => k_is); (case k26 => k_is)
    (case a27 => k_is); (case l27 => k_is); (case c27 => k_is); (case k27 => k_is)
    (case a => k_is); (case l => k_is); (case c => k_is); (case k => k_is)
#print axioms PySem.Challenge.cw_hullrests_k36_whole_common_factors_holds

