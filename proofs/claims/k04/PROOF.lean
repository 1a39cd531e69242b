import PyProof.Rows.All
import Wide.All
import OpenK.AllK
import Wide.FinOn
import PyProof.EqAt
import PyProof.EqKinds
import PyProof.TupleCall
import HandS.Base
import HandS.Call
import HandS.List
import HandS.Comp
import HandS.Ends
import HandS.Words
import PyProof.ReprRoads
import HandS.Dict
import HandS.Iter
import HandS.Text
import HandS.WordsList
import HandS.Conv
import HandS.IsInst
import HandS.Gcd
import HandS.Wide
import HandS.Defaults
import HandS.Exc
import HandS.TryMany
import HandS.WordsExc
import HandS.EndTab
import HandS.Lambda
import HandS.ExcInit
import HandS.ExcField
import HandS.ExcOwn
import PyProof.P3Eq
import KE.KLam
import KE.KNestM
import PySem.Challenge.RW_hullrests_k04_points_refused
set_option Elab.async false
set_option linter.all false
set_option maxRecDepth 100000
namespace Ur
open PySem L2

def nums (a b c : Int) : List V := [.int a, .int b, .int c]
structure Bd (a b c : Int) : Prop where
  a0 : 0 ≤ a
  b0 : 0 ≤ b
  b1 : b < 4294967296
  c0 : 0 ≤ c
  c1 : c < 4294967296
/-- an urn: a list of three numbers within bounds, whichever -/
def UrnO (u : Addr) : HO := .ext fun h => ∃ (a b c : Int) (its : List Value) (n : Nat), Bd a b c ∧ Vals (nums a b c) its ∧ h.get? u = some { cls := .type "list", data := .seq its.toArray n }

section
variable {X : Cx} {pins : List (Addr × Obj)} {σ : L2.St} {H : Hp} {s : Shared} {u : Addr}
theorem urnOpen (I : Inv X pins σ H s) (h : H u = some (UrnO u)) : ∃ a b c, Bd a b c ∧ Inv X pins σ (upd H u (.lst (nums a b c))) s := by
  obtain ⟨⟨a, b, c, its, n, B, r, e⟩, _⟩ := I.hok u _ h
  refine ⟨a, b, c, B, I.write (x := u) (e := u) (t' := s.toks) (h' := s.heap) (by rw [h]; exact trivial) (.inl rfl) (fun b v _ q => q) ⟨_, e⟩ ?_⟩
  exact ⟨by show 3 ≤ sizeLine; decide, its, n, r, e⟩
theorem urnShut {a b c : Int} (I : Inv X pins σ H s) (h : H u = some (.lst (nums a b c))) (B : Bd a b c) : Inv X pins σ (upd H u (UrnO u)) s := by
  obtain ⟨_, its, n, r, e⟩ := I.hok u _ h
  refine I.write (x := u) (e := u) (t' := s.toks) (h' := s.heap) (by rw [h]; exact trivial) (.inl rfl) (fun b v _ q => q) ⟨_, e⟩ ?_
  exact ⟨⟨a, b, c, its, n, B, r, e⟩, ⟨_, e⟩, fun h1 h2 ⟨a, b, c, its, n, B, r, e⟩ k => ⟨a, b, c, its, n, B, r, k _ e⟩⟩
end
theorem upd_back {H : Hp} {u : Addr} {o p : HO} (h : H u = some o) : upd (upd H u p) u o = H := by
  funext b
  by_cases e : b = u
  · rw [e, upd_same, h]
  · rw [upd_ne e, upd_ne e]

def Shut (u : Addr) (Q : Hp → Prop) (H : Hp) : Prop := ∃ a b c, Bd a b c ∧ H u = some (.lst (nums a b c)) ∧ Q (upd H u (UrnO u))
/-- the statements run while the urn is seen as a list -/
def tUrn (t : TS) : TS := fun D σ H => ∃ u, H u = some (UrnO u) ∧ ∀ a b c, Bd a b c → t ⟨fun σ' H' => Shut u (D.nx σ') H', fun v H' => Shut u (D.rt v) H', fun σ' H' => Shut u (D.bk σ') H', fun σ' H' => Shut u (D.ct σ') H'⟩ σ (upd H u (.lst (nums a b c)))
def tShut (t : TE) : TE := fun σ H Q => t σ H fun v H1 => ∃ u, v = .ref u ∧ Shut u (Q v) H1
section
variable {X : Cx}
theorem pss_urn {sts : List Stmt} {t : TS} (h : PSs X sts t) : PSs X sts (tUrn t) := by
  refine ⟨fun pins s
        σ H D I hw => ?_⟩
  obtain ⟨u, hu, hw⟩ := hw
  obtain ⟨a, b, c, B, I1⟩ := urnOpen I hu
  refine thn (h.run pins s σ _ _ I1 (hw a b c B)) fun f s1 q => ?_
  cases f with
  | next => obtain ⟨σ', H', I2, a, b, c, B, e, q⟩ := q; exact ⟨σ', _, urnShut I2 e B, q⟩
  | brk => obtain ⟨σ', H', I2, a, b, c, B, e, q⟩ := q; exact ⟨σ', _, urnShut I2 e B, q⟩
  | cont => obtain ⟨σ', H', I2, a, b, c, B, e, q⟩ := q; exact ⟨σ', _, urnShut I2 e B, q⟩
  | ret v => obtain ⟨x, σ', H', I2, r, a, b, c, B, e, q⟩ := q; exact ⟨x, σ', _, urnShut I2 e B, r, q⟩
theorem pe_shut {e : Expr} {t : TE} (h : PE X e t) : PE X e (tShut t) := by
  refine ⟨fun pins s
        σ H Q I hw => ?_⟩
  refine thn (h.run pins s σ _ _ I hw) fun v s1 ⟨x, H1, I2, r, u, e1, a, b, c, B, e2, q⟩ => ?_
  exact ⟨x, _, urnShut I2 e2 B, r, q⟩
/-- repr of data -/
def rRepr (K : PySem.W.Frag) : List V → Hp → VK → Prop := fun xs H Q => ∃ (a : Addr) (d : PyData), xs = [.ref a] ∧ Dp K H (.ref a) d ∧ d.showable = true ∧ d.hasDict = false ∧ d.shown.length ≤ sizeLine ∧ d.depth ≤ 60 ∧ Q (.str d.shown) H
end
end Ur
namespace Ur
open PySem L2
section
variable {X : Cx}
theorem call_repr (hg : X.A.guards = some []) (hu : X.A.units + 64 < cLine) : CallR X (.builtin "repr") (rRepr X.K) := by
  intro pins s σ
        H xs us Q I r h
  obtain ⟨a, d, rfl, hd, h1, h2, h3, h4, q⟩ := h
  cases r with
  | cons ra rn =>
    cases rn
    obtain rfl := (show _ = Value.ref a from ra)
    obtain ⟨as, hr⟩ := Dp.reads I d _ _ hd rfl
    exact repr_of_reads' hr h1 (fun z => by rw [h2] at z; cases z) hg (by omega) (fun b o e => e) (fun h' u tk hk => ⟨.str d.shown, H, I.kept hk, ⟨u, rfl⟩, q⟩) h3
end
/-- a def's promise where no repr runs around it -/
structure FnG (P : Program) (w : World) (K : PySem.W.Frag) (mg : Str → Option Value) (base : Heap) (CX : CXT) (k : Nat) (f : Addr) (fd : FuncData) (ps : List Str) (sp : Sp) : Prop where
  lens : ∀ vs H Q E, sp vs H Q E → vs.length = ps.length
  go : ∀ (A : Around) (outer : List Env) (s : Shared) (H : Hp) (args : Args) (us : List Value) (vs : List V) (Q : VK) (E : XK), A.guards = some [] → Room k A → Env0 P w K mg base A outer s H →
    BindsTo s fd args (ps.zip us) → Vals vs us → sp vs H Q E → codeAny (model P w) A (.call (.ref f) args) (CR CX outer P w H s Q E) s
section
variable {X : Cx} {CX : CXT} {k : Nat} {f : Addr} {fd : FuncData} {ps : List Str} {sp : Sp} {E : XK} {ds : List Value} {dvs : List V}
theorem callG {x : Str} {p pos : Pos} {e : Expr} {es : List Expr} {t : TA} (F : FnG X.prog X.w X.K X.mg X.base CX k f fd ps sp) (hg : X.A.guards = some []) (hr : Room k X.A) (hgl : Gl X x) (hm : X.mg x = some (.ref f))
    (hk : PySem.W.keepIn X.K (.ref f) = true) (hb : Binds X.K fd ps []) (hx : Passes CX X E) (ha : PA X (e :: es) t) (hdb : (x == ("__debug__" : Str)) = false := by decide)
    (he : starEach (e :: es) X.env = (false, eval e X.env) :: starEach es X.env :=
          by rfl) (hpl : (backTo pos (starEach es X.env)).any (·.1) = false := by rfl) :
    PE X (.Call (.Name x p) (e :: es) [] pos) (tCall sp [] E t) := by
  constructor
  intro pins s σ H Q I h
  apply wpAny_Call_Name_kw
  apply ld_glob I hgl hm _ hdb
  apply PySem.W.callWith_K (h₀ := X.base) I.ok.mod.kin hk _ he hpl
  refine thn (ha.run pos pins s σ H _ I h) ?_
  rintro us s1 ⟨vs, H1, I1, r, q⟩
  refine ⟨I1.kIn, ?_⟩
  have q' : sp vs H1 Q E := by simpa using q
  have hl : us.length = ps.length := by
    rw [← r.length]
    exact F.lens _ _ _ _ q'
  have b1 : BindsTo s1 fd ⟨us, []⟩ (ps.zip us) := by simpa using hb s1 us I1.kIn (by simpa using hl)
  apply wpAny_call
  refine codeAny_mono (F.go X.A X.stack s1 H1 ⟨us, []⟩ us vs Q E hg hr I1.env0 b1 r q') ?_
  intro res s' hq
  match res, hq with
  | .error e, hq => exact hx pins σ H1 s1 e s' I1 hq
  | .ok (.ret u), hq => exact I1.after hq
end
end Ur

namespace Ur
open PySem L2 PyProof.Rows
section
variable {P : Program} {w : World} {K :
      PySem.W.Frag} {mg : Str → Option Value} {base : Heap}
/-- the rule for a def that asks that no repr runs around it -/
theorem okG {x qual : Str} {st : Stmt} {f : Addr} {fd : FuncData} {N ps : List Str} {k : Nat} {sp : Sp} (F : Fun K x qual st f fd) (S : FnScope N ps (defScope st))
    (len : ∀ vs H Q E, sp vs H
          Q E → vs.length = ps.length)
    (body : ∀ (cdv : Value) (A : Around) (outer : List Env) (s : Shared) (H : Hp) (vs : List V) (Q : VK) (E : XK), A.guards = some [] → Room k (A.deeper (envOfC qual (defScope st) s.heap.objs.size f cdv)) →
      sp vs H Q E → ∃ t, PSs (cxOf CX0 P w K mg base N qual (defScope st) f cdv A outer s H E).nox (defBody st) t ∧ t { nx := fun _ H' => Q .non H', rt := Q } (start N vs) H) :
    FnG P w K mg base CX0 (k + 1) f fd ps sp := by
  obtain ⟨oc, od, kV, doc, pm, an,
        cdv, ct, osl, rfl, lk, hcd⟩ := F.ex
  refine ⟨len, ?_⟩
  intro A outer s H args us vs Q E hg hr e0 hb r hsp
  have old : ∀ b o, base.get? b = some o → s.heap.get? b = some o := fun b o e => (e0.bs b o e).1
  have KX := e0.mod.kin.keeps old
  apply codeAny_call_function hr.depth (KX _ _ lk) rfl S.co S.gen rfl (PySem.W.codeRec_of KX hcd)
  apply hb
  apply wpAny_newFunctionEnv_cells S.kind
  · rintro ⟨n, v⟩ hy
    have hn := (List.of_mem_zip hy).1
    cases S.par n hn with
    | inl q => exact Or.inl q
    | inr q => exact Or.inr ⟨q, PySem.W.cellsFrom_some _ _ _ (Or.inl q)⟩
  intro env he s1 x
  subst he
  refine ⟨(e0.mod.nolimit.keeps old).keeps x.toInCall.keep, ?_⟩
  apply codeAny_func
  obtain ⟨t, ht, hq⟩ := body cdv A outer s H vs Q E hg (hr.deeper _) hsp
  have I := inv_start (CX := CX0) (E := E) S hr.hd e0 (len _ _ _ _ hsp) r x
  refine wpAny_mono (ht.nox.run [] s1 (start N vs) H _ I hq) ?_ (fun _ _ z => z)
  intro fl s' hs
  match fl, hs with
  | .ret u, ⟨v, _, H', J, rv, q⟩ => exact ⟨v, H', J.os, J.bare, J.base, J.hok, rv, q⟩
  | .next, ⟨_, H', J, q⟩ => exact ⟨V.non, H', J.os, J.bare, J.base, J.hok, rfl, q⟩
  | .brk, ⟨_, _, _, q⟩ => exact False.elim q
  | .cont, ⟨_, _, _, q⟩ => exact False.elim q
end
end Ur

namespace Ur
open PySem L2 PyProof.Rows
section
variable {P : Program} {w : World} {K : PySem.W.Frag} {mg mb : Str → Option Value} {k : Nat} {fa a : Addr} {fd : FuncData} {x : Str} {sp : Sp} {s1 : Shared} {vs : List Value} {ns : List Int}
abbrev Goes (fa a : Addr) (P : Program) (w : World) (s1 : Shared) : Prop :=
  codeAny (model P w) callerA (.call (.ref fa) ⟨[.ref a], []⟩) (fun r s' => r = .ok (.ret (.bool true)) ∧ OldK s1.heap s'.heap ∧ s'.os = s1.os ∧ AllBare s'.gens) s1
/-- from an abstract heap that tracks the script at most -/
theorem goes_of {H : Hp} (KX : K.In s1.heap) (hns : s1.heap.Ns mainGlobals mg) (hb : s1.heap.Ns builtinsNs mb) (hbb : ∀ y : Str, y ≠ "__name__" → mb y = bootBuiltins y) (hlim : s1.heap.NoLimit) (hg : s1.gens = #[])
    (ha : s1.heap.get? a = some { cls := .type "list", data := .seq vs.toArray }) (hr : Room k callerA)
    (F : ∀ base : Heap, K.In base → base.Ns mainGlobals mg → FnG P w K mg base CX0 k fa fd [x] sp) (bind : ∀ (s : Shared) (u : Value), BindsTo s fd ⟨[u], []⟩ [(x, u)])
    (hok : HOk P w H s1.heap) (hsp : sp [.ref a] H (fun v _ => v = .bl true) fun _ _ _ => False)
    (one : ∀ b, H b = none ∨ (b = a ∧ K.lookup a = none ∧ ∃ o ys, H b = some (.frz o (.lst ys)))) : Goes fa a P w s1 := by
  have seen : ∀ {b o}, s1.heap.get? b = some o → H b = none → (hidT s1.heap H).get? b = some o := fun e z => hidT_get e z
  have notD : ∀ {b o es ep}, s1.heap.get? b = some o → o.data = .dict es ep → H b = none := by
    intro b o es ep e d
    rcases one b with z | ⟨rfl, _, _⟩
    · exact z
    · rw [ha] at e
      obtain rfl := Option.some.inj e
      cases (show Data.seq vs.toArray _ = Data.dict es ep from d)
  have up : ∀ {b m}, s1.heap.Ns b m → (hidT s1.heap H).Ns b m := by
    rintro b m ⟨o, es, ep, e, d, r⟩
    exact ⟨o, es, ep, seen e (notD e d), d, r⟩
  have KB : K.In (hidT s1.heap H) := by
    intro b o e
    refine seen (KX b o e) ?_
    rcases one b with z | ⟨rfl, z, _⟩
    · exact z
    · rw [z] at e; cases e
  obtain ⟨mc, l1, l2⟩ := hlim
  have M : Mod K mg (hidT s1.heap H) := { kin := KB, glob := up hns, blt := ⟨mb, up hb, hbb⟩, nolimit := ⟨mc, up l1, l2⟩ }
  have e0 : Env0 P w K mg (hidT s1.heap H) callerA [] s1 H :=
    { frames := rfl, mod := M, bs := fun b o e => of_hidT e, bsz := Nat.le_of_eq (hidT_size _ _), funs := trivial, frf := fun b z => (by cases (show b ∈ ([] : List Addr) from z)), hok := hok, bare := .of_eq hg }
  refine codeAny_mono ((F _ KB (up hns)).go callerA [] s1 H ⟨[.ref a], []⟩ [.ref a] [.ref a] _ _ rfl hr e0 (bind s1 (.ref a)) (.cons rfl .nil) hsp) ?_
  intro r s' h
  match r, h with
  | .ok (.ret u), ⟨v, H', os, bare, un, hok', rv, hv⟩ =>
    obtain rfl : v = .bl true := hv
    obtain rfl : u = Value.bool true := rv
    refine ⟨rfl, OldK.of_keep ?_, os, bare⟩
    intro b o e
    rcases one b with z | ⟨rfl, _, oo, ys, z⟩
    · exact un.keep b o e z (fun q => (by cases (show b ∈ ([] : List Addr) from q))) (fun q => nomatch q)
    · have e1 := (hok b _ z).1
      have e2 := (hok' b _ (un.frzs b oo _ z)).1
      rw [e] at e1
      obtain rfl :=
            Option.some.inj e1
      exact e2
theorem goes (KX : K.In s1.heap) (hns : s1.heap.Ns mainGlobals mg) (hb : s1.heap.Ns builtinsNs mb) (hbb : ∀ y : Str, y ≠ "__name__" → mb y = bootBuiltins y) (hlim : s1.heap.NoLimit) (hg : s1.gens = #[])
    (ha : s1.heap.get? a = some { cls := .type "list", data := .seq vs.toArray }) (hi : IntsAre vs ns) (hl : ns.length ≤ sizeLine) (hr : Room k callerA)
    (F : ∀ base : Heap, K.In base → base.Ns mainGlobals mg → FnG P w K mg base CX0 k fa fd [x] sp) (bind : ∀ (s : Shared) (u : Value), BindsTo s fd ⟨[u], []⟩ [(x, u)])
    (hsp : ∀ H : Hp, SqL K H a (ns.map V.int) → sp [.ref a] H (fun v _ => v = .bl true) fun _ _ _ => False) : Goes fa a P w s1 := by
  have rv := vals_ints hi
  cases hk : K.lookup a with
  | some o =>
    have e := KX a o hk
    rw [ha] at e
    obtain rfl := Option.some.inj e
    refine goes_of (H := fun _ => none) KX hns hb hbb hlim hg ha hr F bind (fun b u z => nomatch z) (hsp _ (Or.inr ⟨_, vs.toArray, _, hk, rfl, rfl, rfl, ?_, ?_⟩)) (fun b => Or.inl rfl)
    · rw [List.size_toArray, hi.length]; exact hl
    · exact rv
  | none =>
    let o : Obj := { cls := .type "list", data := .seq vs.toArray }
    let H : Hp := upd (fun _ => none) a (.frz o (.lst (ns.map V.int)))
    have hH : H a = some (.frz o (.lst (ns.map V.int))) := upd_same
    refine goes_of (H := H) KX hns hb hbb hlim hg ha hr F bind ?_ (hsp H (Or.inl (Or.inr ⟨o, hH⟩))) ?_
    · intro b u z
      by_cases e : b = a
      · subst e
        rw [hH] at z
        obtain rfl := Option.some.inj z
        refine ⟨ha, ?_, vs, _, rv, ha⟩
        rw [List.length_map]
        exact hl
      · rw [show H b = none from upd_ne e] at z
        cases z
    · intro b
      by_cases e : b = a
      · exact Or.inr ⟨e, hk, o, _, by rw [e]; exact hH⟩
      · exact Or.inl (upd_ne e)
end
theorem walkG {l : PySem.W.OpenLaw} {n k : Nat} {q : Program} {loose : List Str} {XP : (Str → Option Value) → Heap → Prop} {YP : World → Heap → Prop} {d : DefRec} {K : Params → PySem.W.Frag} {sp : PySem.W.Frag → Sp} {x : Str}
    (hn : l.most = some n) (hn2 : n ≤ sizeLine) (hdf : d.params.defaults = []) (hr
          : Room k callerA) (hY : ∀ (w : World) (h : Heap), YP w h → (K w.params).In h)
    (F : ∀ (w : World) (mg : Str → Option Value) (fa : Addr) (h : Heap),
          (K w.params).In h → h.Ns mainGlobals mg → mg d.name = some (.ref fa) →
      ∃ fd : FuncData, (∀ (s : Shared) (u : Value), BindsTo s fd ⟨[u], []⟩ [(x, u)]) ∧ ∀ base : Heap, (K w.params).In base → base.Ns mainGlobals mg → FnG l.prog w (K w.params) mg base CX0 k fa fd [x] (sp (K w.params)))
    (hsp : ∀ (K : PySem.W.Frag) (H : Hp) (a : Addr) (ns : List Int), ns.length ≤ n → SqL K H a (ns.map V.int) → sp K [.ref a] H (fun v _ => v = .bl true) fun _ _ _ => False) :
    PySem.W.WalkO q loose XP YP l.row.toRowW
          d [] (fun f vs => PySem.call f vs) := by
  apply Att.attach_call hn hdf
  intro w s0 s1 mg mb fa o pm cd doc a vs ns G Y ho hd hcd hmg hobj hints hlen hg
  obtain ⟨fd, hb, hF⟩ := F w mg fa _ (hY w _ Y) G.T.g hmg
  exact goes (hY w _ Y) G.T.g G.T.b G.T.builtins G.T.nolimit hg hobj hints (Nat.le_trans hlen hn2) hr hF hb fun H hS => hsp _ H a ns hlen hS
end Ur

namespace Ur
open PySem L2
/-- the def of this name keeps this promise -/
def Has (P : Program) (w : World) (K : PySem.W.Frag) (mg : Str → Option Value) (base : Heap) (x : Str) (ps : List Str) (k : Nat) (sp : Sp) : Prop :=
  ∃ f fd, FnOk P w K mg base CX0 k f fd ps sp ∧ mg x = some (.ref f) ∧ PySem.W.keepIn K (.ref f) = true ∧ Binds K fd ps []
/-- the def stands there -/
def Fnd (K : PySem.W.Frag) (mg : Str → Option Value) (x : Str) (st : Stmt) (ps : List Str) : Prop :=
  ∃ f fd, Fun K x x st f fd ∧ mg x = some (.ref f) ∧ Binds K fd ps []
def KwAll (K : PySem.W.Frag) (fd : FuncData) (ps : List Str) : Prop := KBinds K fd ps ps (fun us ws => us ++ ws) (fun vs zs => vs ++ zs)
section
variable {X : Cx} {x : Str} {p pos : Pos} {e : Expr} {es : List Expr} {t tk : TA} {ps : List Str} {k : Nat} {sp : Sp} {kws : List Keyword}
theorem pe_has (h : Has X.prog X.w X.K X.mg X.base x ps k sp) (hr : Room k X.A) (hg : Gl X x) (ha : PA X (e :: es) t) (hdb : (x == ("__debug__" : Str)) = false := by decide)
    (he : starEach (e :: es) X.env = (false, eval e X.env) :: starEach es X.env :=
          by rfl) (hpl : (backTo pos (starEach es X.env)).any (·.1) = false := by rfl) :
    PE X (.Call (.Name x p) (e :: es) [] pos) (tCall sp [] E0 t) := by
  obtain ⟨f, fd, G, m, kp, b⟩ := h
  exact pe_call G hr hg m kp b .nil pass0 ha hdb he hpl
def tHasK (sp : Sp) (tk : TA) : TE := fun σ H Q => tk σ H fun zs H1 => sp zs H1 Q E0
/-- all arguments by name, in their order -/
theorem pe_hasK0 (h : ∃ f fd, FnOk X.prog X.w X.K X.mg X.base CX0 k f fd ps sp ∧ X.mg x = some (.ref f) ∧ PySem.W.keepIn X.K (.ref f) = true ∧ KwAll X.K fd ps) (hr : Room k X.A) (hg : Gl X x) (hkw : PK X kws tk)
    (hall : (backToKw pos (keywordEach kws X.env)).all (·.1.isSome) = true := by rfl) (hks : (backToKw pos (keywordEach kws X.env)).filterMap (·.1) = ps := by rfl) (hdb : (x == ("__debug__" : Str)) = false := by decide)
    (hpl : ((backTo pos (starEach [] X.env)).any (·.1) || (backToKw
          pos (keywordEach kws X.env)).any (·.1.isNone)) = false := by rfl) :
    PE X (.Call (.Name x p) [] kws pos) (tHasK sp tk) := by
  obtain ⟨f, fd, G, m, kp, b⟩ := h
  constructor
  intro pins s σ H Q I hq
  apply wpAny_Call_Name_kw
  apply ld_glob I hg m _ hdb
  apply PySem.W.callWith_KW0 (h₀ := X.base) I.ok.mod.kin kp hall _ hpl
  refine thn (hkw.run pos pins s σ H _ I hq) ?_
  rintro ws s2 ⟨zs, H2, I2, rz, q2⟩
  refine ⟨I2.kIn, ?_⟩
  rw [hks]
  exact run_fnk (us := []) (vs := []) G hr b pass0 I2 .nil rz q2
end
end Ur

namespace Ur
open PySem L2
theorem same_new {H : Hp} {p : Addr} {o : HO} (h : H p = none) : Same H (upd H p o) := fun a u e => by
  rw [upd_ne (ne_of_none e h)]
  exact e
/-- a list that H does not know may grow -/
theorem same_own {H H' : Hp} {p : Addr} {o : HO} (e : Same H H') (h : H p = none) : Same H (upd H' p o) := fun a u q => by
  rw [upd_ne (ne_of_none q h)]
  exact e a u q
theorem same_sqT {K : PySem.W.Frag} {H H' : Hp} {a : Addr} {xs : List V} (e : Same H H') (h : SqT K H a xs) : SqT K H' a xs := by
  rcases h with (h
        | ⟨o, h⟩) | h
  · exact Or.inl (Or.inl (e _ _ h))
  · exact Or.inl (Or.inr ⟨o, e _ _ h⟩)
  · exact Or.inr h
theorem map_at {ns : List Int} {i : Nat} {x : V} (h : (ns.map V.int)[i]? = some x) : ∃ z, ns[i]? = some z ∧ x = V.int z := by
  rw [List.getElem?_map] at h
  cases e : ns[i]? with
  | none => rw [e]
        at h; cases h
  | some z => rw [e] at h; exact ⟨z, rfl, (Option.some.inj h).symm⟩
/-- what a comprehension without a test has made behind i turns -/
structure Made (H : Hp) (Pe : Nat → V → Prop) (D : Addr) (i : Nat) (H' : Hp) : Prop where
  new : H D = none
  same : Same H H'
  held : ∃ ys, H' D = some (.lst ys) ∧ ys.length = i ∧ ∀ j y, ys[j]? = some y → Pe j y
theorem Made.start {H : Hp} {Pe : Nat → V → Prop} {D : Addr} (h : H D = none) : Made H Pe D 0 (upd H D (.lst [])) :=
  ⟨h, same_new h, [], upd_same, rfl, fun j y e => by simp at e⟩
theorem Made.turn {H H3 : Hp} {Pe : Nat → V → Prop} {D : Addr} {i : Nat} {te : TE} {σ2 : L2.St} (m : Made H Pe D i H3) (hi : i < 100000)
    (he : ∀ Q' : VK, (∀ y H4, Pe i y → Same H3 H4 → Q' y H4) → te σ2 H3 Q') :
    te σ2 H3 fun y H4 => ∃ acc, H4 D = some (.lst acc) ∧ acc.length < sizeLine ∧ Made H Pe D (i + 1) (upd H4 D (.lst (acc ++ [y]))) := by
  obtain ⟨hn, sm, ys, h1, h2, h3⟩ := m
  refine he _ fun y H4 py s4 => ⟨ys, s4 _ _ h1, Nat.lt_of_lt_of_le (by omega : ys.length < 100000) (by decide), hn, same_own (sm.trans s4) hn, ys ++ [y], upd_same, by simp [h2], fun j z e => ?_⟩
  by_cases hj : j < ys.length
  · rw [List.getElem?_append_left hj] at e
    exact h3 j z e
  · rw [List.getElem?_append_right (by omega)] at e
    have : j = i := by
      have hl := (List.getElem?_eq_some_iff.mp e).1
      simp at hl
      omega
    subst this
    rw [← h2, Nat.sub_self] at e
    obtain rfl := Option.some.inj e
    exact py
section
variable {K : PySem.W.Frag} {a : Addr} {xs : List V} {te : TE} {vs : List Nat} {j : Nat} {σ : L2.St} {H : Hp} {Q : VK}
/-- [elt for x in t], t a tuple -/
theorem lcT {tl : TE} (Pe : Nat → V → Prop) (hx : ∀ R : VK, R (.ref a) H → tl σ H R) (hs : SqT K H a xs) (hz : xs.length ≤ 100000) (hw : ∀ x, wipe ((wipe σ vs).set j (some x)) vs = wipe σ vs)
    (he : ∀ i x H3, xs[i]? = some x → Same H H3 → ∀ Q' : VK, (∀ y H4, Pe i y → Same H3 H4 → Q' y H4) → te ((wipe σ vs).set j (some x)) H3 Q')
    (hq : ∀ D ys H', H D = none → Same H H' → H' D = some (.lst ys) → ys.length = xs.length → (∀ i y, ys[i]? = some y → Pe i y) → Q (.ref D) H') : tLc (iTup K tl) (gName j) tYes te vs σ H Q := by
  refine hx _ ⟨a, rfl, ⟨xs, hs⟩, fun D hD => ?_⟩
  refine lc_tup (xs := xs) (Made H Pe D) (.start hD) (fun i H' _ m => same_sqT m.same hs) (fun i x H' hi m => ⟨hw x, ?_⟩) (fun H' ⟨hn, sm, ys, h1, h2, h3⟩ => hq D ys H' hn sm h1 h2 h3)
  have hl := (List.getElem?_eq_some_iff.mp hi).1
  unfold tYes
  dsimp only
  rw [if_pos rfl]
  exact (m.turn (by omega) (he i x H' hi m.same))
/-- [elt for x in l], l a list -/
theorem lcL {tl : TE} (Pe : Nat → V → Prop) (hx : ∀ R : VK, R (.ref a) H → tl σ H R) (hs : SqL K H a xs) (hz : xs.length ≤ 100000) (hw : ∀ x, wipe ((wipe σ vs).set j (some x)) vs = wipe σ vs)
    (he : ∀ i x H3, xs[i]? = some x → Same H H3 → ∀ Q' : VK, (∀ y H4, Pe i y → Same H3 H4 → Q' y H4) → te ((wipe σ vs).set j (some x)) H3 Q')
    (hq : ∀ D ys H', H D = none → Same H H' → H' D = some (.lst ys) → ys.length = xs.length → (∀ i y, ys[i]? = some y → Pe i y) → Q (.ref D) H') : tLc (iList K tl) (gName j) tYes te vs σ H Q := by
  refine hx _ ⟨a, rfl, ⟨xs, hs⟩, fun D hD => ?_⟩
  refine lc_list (xs := xs) (Made H Pe D) (.start hD) (fun i H' _ m => m.same.seq hs) (fun i x H' hi m => ⟨hw x, ?_⟩) (fun H' ⟨hn, sm, ys, h1, h2, h3⟩ => hq D ys H' hn sm h1 h2 h3)
  have hl := (List.getElem?_eq_some_iff.mp hi).1
  unfold tYes
  dsimp only
  rw [if_pos rfl]
  exact (m.turn (by omega) (he i x H' hi m.same))
/-- [elt for x in range(n)] -/
theorem lcR {ta : TA} {n : Int} {H0 : Hp} (Pe : Nat → V → Prop) (hx : ∀ R : List V → Hp → Prop, (∀ H1, Same H0 H1 → R [.int n] H1) → ta σ H0 R) (h0 : 0 ≤ n) (hz : n ≤ 100000) (hw : ∀ x, wipe ((wipe σ vs).set j (some x)) vs = wipe σ vs)
    (he : ∀ (i : Nat) H3, i < n → Same H0 H3 → ∀ Q' : VK, (∀ y H4, Pe i y → Same H3 H4 → Q' y H4) → te ((wipe σ vs).set j (some (.int (0 + (i : Int))))) H3 Q')
    (hq : ∀ D ys H', H0 D = none → Same H0 H' → H' D = some (.lst ys) → (ys.length : Int) = n → (∀ i y, ys[i]? = some y → Pe i y) → Q (.ref D) H') : tLc (iRng1 ta) (gName j) tYes te vs σ H0 Q := by
  refine hx _ fun H1 s1 => ⟨n, rfl, by omega, by omega, fun D hD => ?_⟩
  refine lc_range (lo := 0) (n := n.toNat) (Made H1 Pe D) (.start hD) (fun i H' hi m => ⟨hw _, ?_⟩) (fun H' ⟨hn, sm, ys, h1, h2, h3⟩ => hq D ys H' (s1.free hn) (s1.trans sm) h1 (by omega) h3)
  unfold tYes
  dsimp only
  rw [if_pos rfl]
  exact (m.turn (by omega) (he i H' (by omega) (s1.trans m.same)))
end
end Ur
namespace Ur
open PySem L2
/-- a statement and the rest, with a word of one's own between them -/
def tMid (t u : TS) : TS := fun D σ H => ∃ M : L2.St → Hp → Prop, t { D with nx := M } σ H ∧ ∀ σ' H', M σ' H' → u D σ' H'
theorem pss_mid {X : Cx} {st : Stmt} {rest : List Stmt} {t u : TS} (h1 : PS X st t) (h2 : PSs X rest u) : PSs X (st :: rest) (tMid t u) := by
  constructor
  intro pins s σ H D I hw
  obtain ⟨M, hm, hu⟩ := hw
  apply wpAny_execs_cons
  refine thn (h1.run pins s σ H { D with nx := M } I hm) ?_
  intro f s1 q
  match f, q with
  | .next, ⟨σ', H', I', q⟩ => exact h2.run pins s1 σ' H' D I' (hu σ' H' q)
  | .ret v, q => exact q
  | .brk, q => exact q
  | .cont, q => exact q
theorem seq_of {t u : TS} {D : Ends} {σ : L2.St} {H : Hp} (h : t { D with nx := u D } σ H) : tSeq t u D σ H := h
theorem asg_of {te : TE} {g : TG} {D : Ends} {σ : L2.St} {H : Hp} (h : te σ H fun x H1 => g x σ H1 D.nx) : tAsg te g D σ H := h
theorem ixN_nat {n j : Nat} (h : j < n) : ixN n (j : Int) = some j := by
  unfold ixN
  rw [if_pos (by omega),
        if_pos (by omega)]
  rfl
end Ur

namespace Ur
open PySem L2
/-! ### values of any kind -/
inductive Kd where
  | non | bool | int | str | lst | tup | dic
  deriving DecidableEq
def Kd.nm : Kd → String
  | .non => "NoneType" | .bool => "bool" | .int => "int" | .str => "str" | .lst => "list" | .tup => "tuple" | .dic => "dict"
theorem kd_int (k : Kd) : kitB k.nm "int" = some (k == .int || k == .bool) := by cases k <;> decide +kernel
theorem kd_bool (k : Kd) : kitB k.nm "bool" = some (k == .bool) := by cases k <;> decide +kernel
theorem kd_tup (k : Kd) : kitB k.nm "tuple" = some (k == .tup) := by cases k <;> decide +kernel
def OfKd (K : PySem.W.Frag) (H : Hp) (x : V) (k : Kd) : Prop := TyX K H x (.type k.nm)
def wh : V → Bool
  | .int _ => true
  | _ => false
theorem nm_inj {k l : Kd} (h : k.nm = l.nm) : k = l := by
  cases k <;> cases l <;> first | rfl | (exact absurd h (by decide))
theorem ofKd_wh {K : PySem.W.Frag} {H : Hp} {x : V} {k : Kd} (h : OfKd K H x k) : (k == .int) = wh x := by
  have no : ∀ l : Kd, l ≠ .int → Value.type k.nm = Value.type l.nm → (k == Kd.int) = false := fun l hl e => by
    have : k = l := nm_inj (by injection e)
    subst this
    exact beq_eq_false_iff_ne.mpr hl
  have yes : Value.type k.nm = Value.type Kd.int.nm → (k == Kd.int) = true := fun e => by
    have : k = .int := nm_inj (by injection e)
    subst this
    rfl
  unfold OfKd at h
  generalize ht : Value.type k.nm = t at h
  cases h with
  | base b =>
    cases b with
    | non => exact no .non (by decide) ht
    | bl y => exact no .bool (by decide) ht
    | int i => exact yes ht
    | str y => exact no .str (by decide) ht
    | flt y =>
      have e : k.nm = "float" := by injection ht
      cases k <;> exact absurd e (by decide)
    | lst e => exact no .lst (by decide) ht
    | frz e => exact no .lst (by decide) ht
    | tup e => exact no .tup (by decide) ht
    | dK e => exact no .dic (by decide) ht
    | dT e => exact no .dic (by decide) ht
    | ins e _ _ _ _ _ => cases ht
  | byt y =>
    have e : k.nm = "bytes" := by injection ht
    cases k <;> exact absurd e (by decide)
  | set e =>
    have e : k.nm = "set" := by injection ht
    cases k <;> exact absurd e (by decide)
  | kList e c => exact no .lst (by decide) ht
  | kTuple e c => exact no .tup (by decide) ht
  | kDict e c => exact no .dic (by decide) ht
  | fTuple e => exact no .tup (by decide) ht
  | fDict e => exact no .dic (by decide) ht
theorem ofKd_same {K : PySem.W.Frag} {H H' : Hp} {x : V} {k : Kd} (s : Same H H') (h : OfKd K H x k) : OfKd K H' x k := by
  unfold OfKd at h ⊢
  generalize Value.type k.nm = t at h ⊢
  cases h with
  | base b =>
    refine .base ?_
    cases b with
    | non => exact .non
    | bl y => exact .bl y
    | int i => exact .int i
    | str y => exact .str y
    | flt y => exact .flt y
    | lst e => exact .lst (s _ _ e)
    | frz e => exact .frz (s _ _ e)
    | tup e => exact .tup (s _ _ e)
    | dK e => exact .dK (s _ _ e)
    | dT e => exact .dT (s _ _ e)
    | ins e a b c d f => exact .ins (s _ _ e) a b c d f
  | byt y => exact .byt y
  | set e => exact .set (s _ _ e)
  | kList e c => exact .kList e c
  | kTuple e c => exact .kTuple e c
  | kDict e c => exact .kDict e c
  | fTuple e => exact .fTuple (s _ _ e)
  | fDict e => exact .fDict (s _ _ e)
theorem tup_kd {K : PySem.W.Frag} {H : Hp} {a : Addr} {xs : List V} (h : SqT K H a xs) : OfKd K H (.ref a) .tup := by
  rcases h with (h | ⟨o, h⟩) | ⟨o, its, n, h, c, _⟩
  · exact .base (.tup h)
  · exact .fTuple h
  · exact .kTuple h c
theorem all_wh : ∀ {xs : List V}, xs.all wh = true → ∃ ns : List Int, xs = ns.map V.int
  | [], _ => ⟨[], rfl⟩
  | x :: r, h => by
    rw [List.all_cons,
          Bool.and_eq_true] at h
    obtain ⟨ns, rfl⟩ := all_wh h.2
    cases x with
    | int i => exact ⟨i :: ns, rfl⟩
    | _ => exact absurd h.1 (by simp [wh])
theorem ints_wh (ns : List Int) : (ns.map V.int).all wh = true := by
  rw [List.all_map]
  exact List.all_eq_true.mpr
        fun _ _ => rfl
mutual
theorem dp_same {K : PySem.W.Frag} {H H' : Hp} (s : Same H H') : ∀ {v : V} {d : PyData}, Dp K H v d → Dp K H' v d
  | _, _, .non => .non
  | _, _, .bl b => .bl b
  | _, _, .int i => .int i
  | _, _, .str x => .str x
  | _, _, .lst h1 h2 => .lst (s.seq h1) (dpAll_same s h2)
  | _, _, .tup h1 h2 => .tup (same_sqT s h1) (dpAll_same s h2)
theorem dpAll_same {K : PySem.W.Frag} {H H' : Hp} (s : Same H H') : ∀ {vs : List V} {ds : List PyData}, DpAll K H vs ds → DpAll K H' vs ds
  | _, _, .nil => .nil
  | _, _, .cons h1 h2 => .cons (dp_same s h1) (dpAll_same s h2)
end
/-- an item of such a tuple -/
structure It (K : PySem.W.Frag) (H : Hp) (y : V) : Prop where
  kd : ∃ l, OfKd K H y l
  dat : ∃ d, Dp K H y d ∧ d.canLay0 = true ∧ d.depth ≤ 8
theorem It.same {K : PySem.W.Frag} {H H' : Hp} {y : V} (s : Same H H') (h : It K H y) : It K H' y :=
  ⟨let ⟨l, a⟩ := h.kd; ⟨l, ofKd_same s a⟩, let ⟨d, a, b⟩ := h.dat; ⟨d, dp_same s a, b⟩⟩
/-- a value of any kind, seen as an argument: its kind, and its items if it is a tuple -/
structure Arg (K : PySem.W.Frag) (H : Hp) (x : V) (k : Kd) (xs : List V) : Prop where
  ty : OfKd K H x k
  its : k = .tup → ∃ a, x = .ref a ∧ SqT K H a xs ∧ xs.length ≤ 1000 ∧ (∀ y ∈ xs, It K H y) ∧ ∀ i, V.int i ∈ xs → i.natAbs < 2 ^ 9000
theorem Arg.same {K : PySem.W.Frag} {H H' : Hp} {x : V} {k : Kd} {xs : List V} (s : Same H H') (A : Arg K H x k xs) : Arg K H' x k xs :=
  ⟨ofKd_same s A.ty, fun e => let ⟨a, e1, e2, e3, e4, e5⟩ := A.its e; ⟨a, e1, same_sqT s e2, e3, fun y hy => (e4 y hy).same s, e5⟩⟩
/-! ### tuples of ints as data -/
theorem dpAll_ints {K : PySem.W.Frag} {H : Hp} : ∀ ns : List Int, DpAll K H (ns.map V.int) (ns.map PyData.int)
  | [] => .nil
  | n :: r => .cons (.int n) (dpAll_ints r)
theorem dp_ints {K : PySem.W.Frag} {H : Hp} {a : Addr} {ns : List Int} (h : SqT K H a (ns.map V.int)) : Dp K H (.ref a) (.tuple (ns.map PyData.int)) := .tup h (dpAll_ints ns)
theorem lay_ints : ∀ ns : List Int, PyData.canLayAll0 (ns.map PyData.int) = true
  | [] => rfl
  | _ :: r => by
    show (true && PyData.canLayAll0 (r.map PyData.int)) = true
    rw [lay_ints r]
    rfl
theorem depth_ints : ∀ ns : List Int, PyData.depthAll (ns.map PyData.int) = 0
  | [] => rfl
  | _ :: r => by
    show max 0 (PyData.depthAll (r.map PyData.int)) = 0
    rw [depth_ints r]
    rfl
theorem shaped_ints (ns : List Int) : SeqAt.shaped (.tuple (ns.map PyData.int)) = true := by
  unfold SeqAt.shaped
  show (PyData.canLayAll0 _ && decide (PyData.depthAll _ + 1 ≤ 64)) = true
  rw [lay_ints, depth_ints]
  rfl
theorem eqvAll_ints : ∀ a b : List Int, PyData.eqvAll (a.map PyData.int) (b.map PyData.int) = decide (a = b)
  | [], [] => rfl
  | [], _ :: _ =>
        by simp [PyData.eqvAll]
  | _ :: _, [] =>
        by simp [PyData.eqvAll]
  | x :: a, y :: b => by
    show ((x == y) && PyData.eqvAll (a.map PyData.int) (b.map PyData.int)) = _
    rw [eqvAll_ints a b]
    by_cases e : x = y
    · subst e; simp
    · simp [e]
theorem eqv_ints (a b : List Int) : PyData.eqv (.tuple (a.map PyData.int)) (.tuple (b.map PyData.int)) = decide (a = b) := eqvAll_ints a b
/-- a list of such items as data -/
theorem its_dat {K : PySem.W.Frag} {H : Hp} : ∀ {ys : List V}, (∀ y ∈ ys, It K H y) → ∃ ds, DpAll K H ys ds ∧ PyData.canLayAll0 ds = true ∧ PyData.depthAll ds ≤ 8 ∧ ds.length = ys.length
  | [], _ => ⟨[], .nil, rfl, by decide, rfl⟩
  | y :: r, h => by
    obtain ⟨d, h1, h2, h3⟩ := (h y List.mem_cons_self).dat
    obtain ⟨ds, g1, g2, g3, g4⟩ := its_dat (ys := r) fun z hz => h z (List.mem_cons_of_mem _ hz)
    refine ⟨d :: ds, .cons h1 g1, ?_, ?_, by simp [g4]⟩
    · show (PyData.canLay0 d && PyData.canLayAll0 ds) = true
      rw [h2, g2]
      rfl
    · show max (PyData.depth d) (PyData.depthAll ds) ≤ 8
      omega
/-- a comprehension with a test that keeps items as they are -/
structure Kept (H : Hp) (xs : List V) (f : V → Bool) (D : Addr) (i : Nat) (H' : Hp) : Prop where
  new : H D = none
  same : Same H H'
  held : H' D = some (.lst ((xs.take i).filter f))
theorem lcTf {K : PySem.W.Frag} {a : Addr} {xs : List V} {tl te : TE} {tt : TT} {vs : List Nat} {j : Nat} {σ : L2.St} {H : Hp} {Q : VK} (f : V → Bool) (hx : ∀ R : VK, R (.ref a) H → tl σ H R) (hs : SqT K H a xs) (hz : xs.length ≤ 100000)
    (hw : ∀ x, wipe ((wipe σ vs).set j (some x)) vs = wipe σ vs)
    (ht : ∀ (i : Nat) (x : V) (H3 : Hp), xs[i]? = some x → Same H H3 → ∀ Q' : Bool → Hp → Prop, (∀ H4, Same H3 H4 → Q' (f x) H4) → tt ((wipe σ vs).set j (some x)) H3 Q')
    (he : ∀ (i : Nat) (x : V) (H3 : Hp), xs[i]? = some x → Same H H3 → ∀ Q' : VK, Q' x H3 → te ((wipe σ vs).set j (some x)) H3 Q')
    (hq : ∀ D H', H D = none → Same H H' → H' D = some (.lst (xs.filter f)) → Q (.ref D) H') : tLc (iTup K tl) (gName j) tt te vs σ H Q := by
  refine hx _ ⟨a, rfl, ⟨xs, hs⟩, fun D hD => ?_⟩
  refine lc_tup (xs := xs) (Kept H xs f D) ⟨hD, same_new hD, upd_same⟩ (fun i H' _ m => same_sqT m.same hs) (fun i x H' hi m => ⟨hw x, ?_⟩) (fun H' m => hq D H' m.new m.same (by have := m.held; rwa [List.take_length] at this))
  have hl := (List.getElem?_eq_some_iff.mp hi).1
  have e1 : xs.take (i + 1) = xs.take i ++ [x] := by
    obtain ⟨_, rfl⟩ := List.getElem?_eq_some_iff.mp hi
    exact List.take_succ_eq_append_getElem hl
  refine ht i x H' hi m.same _ fun H4 s4 => ?_
  cases hf : f x with
  | true =>
    rw [if_pos rfl]
    refine he i x H4 hi (m.same.trans s4) _ ⟨_, s4 _ _ m.held, ?_, m.new, same_own (m.same.trans s4) m.new, ?_⟩
    · have := List.length_filter_le f (xs.take i)
      rw [List.length_take] at this
      exact Nat.lt_of_lt_of_le (by omega : _ < 100001) (by decide)
    · rw [upd_same, e1, List.filter_append, List.filter_cons, if_pos hf]
      rfl
  | false =>
    rw [if_neg
          Bool.false_ne_true]
    refine ⟨m.new, m.same.trans s4, ?_⟩
    rw [e1, List.filter_append, List.filter_cons, if_neg (by rw [hf]; decide)]
    show _ = some (HO.lst (_ ++ []))
    rw [List.append_nil]
    exact s4 _ _ m.held
end Ur
namespace Ur
open PySem L2
section
variable {te : TE} {vs : List Nat} {j : Nat} {σ : L2.St} {Q : VK}
/-- [elt for x in range(n)], n drawn -/
theorem lcRn {ta : TA} {H0 : Hp} (Pn : Int → Prop) (Pe : Int → Nat → V → Prop) (hx : ∀ R : List V → Hp → Prop, (∀ n H1, Pn n → Same H0 H1 → R [.int n] H1) → ta σ H0 R) (hb : ∀ n, Pn n → 0 ≤ n ∧ n ≤ 100000)
    (hw : ∀ x, wipe ((wipe σ vs).set j (some x)) vs = wipe σ vs)
    (he : ∀ (n : Int) (i : Nat) (H3 : Hp), Pn n → i < n → Same H0 H3 → ∀ Q' : VK, (∀ y H4, Pe n i y → Same H3 H4 → Q' y H4) → te ((wipe σ vs).set j (some (.int (0 + (i : Int))))) H3 Q')
    (hq : ∀ n D ys H', Pn n → H0 D = none → Same H0 H' → H' D = some (.lst ys) → (ys.length : Int) = n → (∀ i y, ys[i]? = some y → Pe n i y) → Q (.ref D) H') : tLc (iRng1 ta) (gName j) tYes te vs σ H0 Q := by
  refine hx _ fun n H1 pn s1 => ⟨n, rfl, by have := hb n pn; omega, by have := hb n pn; omega, fun D hD => ?_⟩
  have hn := hb n pn
  refine lc_range (lo := 0) (n := n.toNat) (Made H1 (Pe n) D) (.start hD) (fun i H' hi m => ⟨hw _, ?_⟩) (fun H' ⟨hn, sm, ys, h1, h2, h3⟩ => hq n D ys H' pn (s1.free hn) (s1.trans sm) h1 (by omega) h3)
  unfold tYes
  dsimp only
  rw [if_pos rfl]
  exact m.turn (by omega) (he n i H' pn (by omega) (s1.trans m.same))
end
end Ur
namespace Ur
open PySem L2
/-- the def of this name keeps this promise where no repr runs around it -/
def HasG (P : Program) (w : World) (K : PySem.W.Frag) (mg : Str → Option Value) (base : Heap) (x : Str) (ps : List Str) (k : Nat) (sp : Sp) : Prop :=
  ∃ f fd, FnG P w K mg base CX0 k f fd ps sp ∧ mg x = some (.ref f) ∧ PySem.W.keepIn K (.ref f) = true ∧ Binds K fd ps []
def HasK (P : Program) (w : World) (K : PySem.W.Frag) (mg : Str → Option Value) (base : Heap) (x : Str) (ps : List Str) (k : Nat) (sp : Sp) : Prop :=
  ∃ f fd, FnOk P w K mg base CX0 k f fd ps sp ∧ mg x = some (.ref f) ∧ PySem.W.keepIn K (.ref f) = true ∧ KwAll K fd ps
theorem pe_hasG {X : Cx} {x : Str} {p pos : Pos} {e : Expr} {es : List Expr} {t : TA} {ps : List Str} {k : Nat} {sp : Sp} (h : HasG X.prog X.w X.K X.mg X.base x ps k sp) (hgu : X.A.guards = some []) (hr : Room k X.A) (hg : Gl X x)
    (ha : PA X (e :: es) t) (hdb : (x == ("__debug__" : Str)) = false := by decide) (he : starEach (e :: es) X.env = (false, eval e X.env) :: starEach es X.env := by rfl)
    (hpl : (backTo pos (starEach es X.env)).any (·.1) = false := by rfl) : PE X (.Call (.Name x p) (e :: es) [] pos) (tCall sp [] E0 t) := by
  obtain ⟨f, fd, G, m, kp, b⟩ := h
  exact callG G hgu hr hg m kp b pass0 ha hdb he hpl
def FndK (K : PySem.W.Frag) (mg : Str → Option Value) (x : Str) (st : Stmt) (ps : List Str) : Prop :=
  ∃ f fd, Fun K x x st f fd ∧ mg x = some (.ref f) ∧ Binds K fd ps [] ∧ KwAll K fd ps
section
variable {P : Program} {w : World} {K : PySem.W.Frag} {mg : Str → Option Value} {base : Heap} {x : Str} {st : Stmt} {ps : List Str} {k : Nat} {sp : Sp}
theorem Fnd.has (D : Fnd K mg x st ps) (h : ∀ {f fd}, Fun K x x st f fd → FnOk P w K mg base CX0 k f fd ps sp) : Has P w K mg base x ps k sp := by
  obtain ⟨f, fd, F, m, b⟩ := D
  exact ⟨f, fd, h F, m, F.kp, b⟩
theorem Fnd.hasG (D : Fnd K mg x st ps) (h : ∀ {f fd}, Fun K x x st f fd → FnG P w K mg base CX0 k f fd ps sp) : HasG P w K mg base x ps k sp := by
  obtain ⟨f, fd, F, m, b⟩ := D
  exact ⟨f, fd, h F, m, F.kp, b⟩
theorem FndK.fnd (D : FndK K mg x st ps) : Fnd K mg x st ps := by
  obtain ⟨f, fd, F, m, b, _⟩ := D
  exact ⟨f, fd, F, m, b⟩
theorem FndK.hasK (D : FndK K mg x st ps) (h : ∀ {f fd}, Fun K x x st f fd → FnOk P w K mg base CX0 k f fd ps sp) : HasK P w K mg base x ps k sp := by
  obtain ⟨f, fd, F, m, _, b⟩ := D
  exact ⟨f, fd, h F, m, F.kp, b⟩
end
section
variable {K : PySem.W.Frag} {h : Heap} {mg : Str → Option Value} {x : Str} {st : Stmt} {ps : List Str} {f : Addr} {oc kV dc pm cd ct : Value} {od an : Option Addr} {sl : Array (Option Value)}
theorem fnd_mk (X : K.In h) (G : h.Ns mainGlobals mg) (a : PySem.W.nsIn K mainGlobals x = some (some (.ref f))) (l : K.lookup f = some ⟨oc, od, .func (PySem.W.fnOf x x (defArgs st) (defBody st) (defScope st) .none kV dc pm an cd ct), sl⟩)
    (c : PySem.W.codeIn K cd x = true) (k : PySem.W.keepIn K (.ref f) = true)
    (hb : ∀ (kV doc pm : Value) (an : Option Addr) (cdv ct : Value) (us : List Value), us.length = ps.length → bindArgs (PySem.W.fnOf x x (defArgs st) (defBody st) (defScope st) .none kV doc pm an cdv ct) ⟨us, []⟩ = pure (ps.zip us)) : Fnd K mg x st ps :=
  have F := fun_mk l c k
  ⟨f, _, F, PySem.W.mg_of X G a, F.binds hb⟩
theorem fndK_mk (X : K.In h) (G : h.Ns mainGlobals mg) (a : PySem.W.nsIn K mainGlobals x = some (some (.ref f))) (l : K.lookup f = some ⟨oc, od, .func (PySem.W.fnOf x x (defArgs st) (defBody st) (defScope st) .none kV dc pm an cd ct), sl⟩)
    (c : PySem.W.codeIn K cd x = true) (k : PySem.W.keepIn K (.ref f) = true)
    (hb : ∀ (kV doc pm : Value) (an : Option Addr) (cdv ct : Value) (us : List Value), us.length = ps.length → bindArgs (PySem.W.fnOf x x (defArgs st) (defBody st) (defScope st) .none kV doc pm an cdv ct) ⟨us, []⟩ = pure (ps.zip us))
    (hk : ∀ (kV doc pm : Value) (an : Option Addr) (cdv ct : Value) (us ws : List Value), (us ++ ws).length = ps.length → bindArgs (PySem.W.fnOf x x (defArgs st) (defBody st) (defScope st) .none kV doc pm an cdv ct) ⟨us, ps.zip ws⟩ = pure (ps.zip (us ++ ws))) : FndK K mg x st ps :=
  have F := fun_mk l c k
  ⟨f, _, F, PySem.W.mg_of X G a, F.binds hb, ⟨fun _ us ws _ hl => .of_eq (hk _ _ _ _ _ _ us ws hl), fun a b => a.append b⟩⟩
end
end Ur
namespace Ur
theorem one_split {α : Type} {us ws : List α} (h : (us ++ ws).length = 1) : (∃ v, us = [] ∧ ws = [v]) ∨ ∃ v, us = [v] ∧ ws = [] := by
  match us, ws, h with
  | [], [v], _ => exact Or.inl ⟨v, rfl, rfl⟩
  | [v], [], _ => exact Or.inr ⟨v, rfl, rfl⟩
  | [], _ :: _ :: _, h => exact absurd h (by simp)
  | [_], _ :: _, h => exact absurd h (by simp)
  | _ :: _ :: _, _, h => exact absurd h (by simp)
end Ur

namespace Ur
open PySem L2
/-! ### calls by name, the names the other way round -/
def HasR (P : Program) (w : World) (K : PySem.W.Frag) (mg : Str → Option Value) (base : Heap) (x : Str) (ps : List Str) (k : Nat) (sp : Sp) : Prop :=
  ∃ f fd, FnOk P w K mg base CX0 k f fd ps sp ∧ mg x = some (.ref f) ∧ PySem.W.keepIn K (.ref f) = true ∧ ∀ (s : Shared) (ws : List Value), K.In s.heap → ws.length = ps.length → BindsTo s fd ⟨[], ps.reverse.zip ws⟩ (ps.zip ws.reverse)
def tHasR (sp : Sp) (tk : TA) : TE := fun σ H Q => tk σ H fun zs H1 => sp zs.reverse H1 Q E0
theorem vals_rev {vs : List V} {us : List Value} (h : Vals vs us) : Vals vs.reverse us.reverse := by
  induction h with
  | nil => exact .nil
  | cons a b ih =>
    rw [List.reverse_cons,
          List.reverse_cons]
    exact ih.append (.cons a .nil)
theorem pe_hasR0 {X : Cx} {x : Str} {p pos : Pos} {tk : TA} {ps : List Str} {k : Nat} {sp : Sp} {kws : List Keyword} (h : HasR X.prog X.w X.K X.mg X.base x ps k sp) (hr : Room k X.A) (hg : Gl X x) (hkw : PK X kws tk)
    (hall : (backToKw pos (keywordEach kws X.env)).all (·.1.isSome) = true := by rfl) (hks : (backToKw pos (keywordEach kws X.env)).filterMap (·.1) = ps.reverse := by rfl) (hdb : (x == ("__debug__" : Str)) = false := by decide)
    (hpl : ((backTo pos (starEach [] X.env)).any (·.1) || (backToKw pos (keywordEach kws X.env)).any (·.1.isNone)) = false := by rfl) : PE X (.Call (.Name x p) [] kws pos) (tHasR sp tk) := by
  obtain ⟨f, fd, G, m, kp, b⟩ := h
  constructor
  intro pins s σ H Q I hq
  apply wpAny_Call_Name_kw
  apply ld_glob I hg m _ hdb
  apply PySem.W.callWith_KW0 (h₀ := X.base) I.ok.mod.kin kp hall _ hpl
  refine thn (hkw.run pos pins s σ H _ I hq) ?_
  rintro ws s2 ⟨zs, H2, I2, rz, q2⟩
  refine ⟨I2.kIn, ?_⟩
  rw [hks]
  have rr := vals_rev rz
  have hl : ws.length = ps.length := by
    rw [← List.length_reverse (as := ws), ← rr.length]
    exact G.len _ _ _ _ q2
  apply wpAny_call
  refine codeAny_mono (G.run X.A X.stack s2 H2 ⟨[], ps.reverse.zip ws⟩ ws.reverse zs.reverse Q E0 hr I2.env0 (b s2 ws I2.kIn hl) rr q2) ?_
  intro res s' hq
  match res, hq with
  | .error e, hq => exact pass0 pins σ H2 s2 e s' I2 hq
  | .ok (.ret u), hq => exact I2.after hq
/-- some arguments by position, the others by name -/
def HasN (P : Program) (w : World) (K : PySem.W.Frag) (mg : Str → Option Value) (base : Heap) (x : Str) (ps : List Str) (n : Nat) (ks : List Str) (k : Nat) (sp : Sp) : Prop :=
  ∃ f fd, FnOk P w K mg base CX0 k f fd ps sp ∧ mg x = some (.ref f) ∧ PySem.W.keepIn K (.ref f) = true ∧ KBn K fd ps n ks (fun us ws => us ++ ws.reverse) (fun vs zs => vs ++ zs.reverse)
theorem pe_hasN {X : Cx} {x : Str} {p pos : Pos} {e : Expr} {es : List Expr} {t tk : TA} {ps ks : List Str} {n k : Nat} {sp : Sp} {kws : List Keyword} (h : HasN X.prog X.w X.K X.mg X.base x ps n ks k sp) (hr : Room k X.A) (hg : Gl X x)
    (ha : PA X (e :: es) t) (hkw : PK X kws tk) (hall : (backToKw pos (keywordEach kws X.env)).all (·.1.isSome)
          = true := by rfl) (hks : (backToKw pos (keywordEach kws X.env)).filterMap (·.1) = ks := by rfl)
    (hdb : (x == ("__debug__" : Str)) = false := by decide) (he : starEach
          (e :: es) X.env = (false, eval e X.env) :: starEach es X.env := by rfl)
    (hpl : ((backTo pos (starEach (e :: es) X.env)).any (·.1) || (backToKw
          pos (keywordEach kws X.env)).any (·.1.isNone)) = false := by rfl) :
    PE X (.Call (.Name x p) (e :: es) kws pos) (tCallN n ks.length sp (fun vs zs => vs ++ zs.reverse) E0 t tk) := by
  obtain ⟨f, fd, G, m, kp, b⟩ := h
  exact pe_callN G hr hg m kp b pass0 ha hkw hall hks hdb he hpl
/-! ### tuples of ints -/
def Tp (K : PySem.W.Frag) (H : Hp) (v : V) (ns : List Int) : Prop := ∃ a, v = .ref a ∧ SqT K H a (ns.map V.int)
theorem Tp.same {K : PySem.W.Frag} {H H' : Hp} {v : V} {ns : List Int} (s : Same H H') (h : Tp K H v ns) : Tp K H' v ns := by
  obtain ⟨a, e, h⟩ := h
  exact ⟨a, e, same_sqT s h⟩
theorem Tp.dp {K : PySem.W.Frag} {H : Hp} {v : V} {ns : List Int} (h : Tp K H v ns) : Dp K H v (.tuple (ns.map PyData.int)) := by
  obtain ⟨a, rfl, h⟩ := h
  exact dp_ints h
def sp1 (K : PySem.W.Frag) (pre : List Int → Prop) (f : List Int → List Int) : Sp := fun vs H Q _ => ∃ (v : V) (a : List Int), vs = [v] ∧ Tp K H v a ∧ pre a ∧ ∀ p H', Same H H' → Tp K H' p (f a) → Q p H'
def sp2 (K : PySem.W.Frag) (pre : List Int → List Int → Prop) (f : List Int → List Int → List Int) : Sp := fun vs H Q _ => ∃ (v w : V) (a b : List Int), vs = [v, w] ∧ Tp K H v a ∧ Tp K H w b ∧ pre a b ∧ ∀ p H', Same H H' → Tp K H' p (f a b) → Q p H'
def sp3 (K : PySem.W.Frag) (pre : List Int → List Int → List Int → Prop) (f : List Int → List Int → List Int → List Int) : Sp := fun vs H Q _ =>
  ∃ (v w z : V) (a b c : List Int), vs = [v, w, z] ∧ Tp K H v a ∧ Tp K H w b ∧ Tp K H z c ∧ pre a b c ∧ ∀ p H', Same H H' → Tp K H' p (f a b c) → Q p H'
end Ur
namespace Ur
open PySem L2
/-! ### texts of lists of such tuples, of ints -/
def tupD (ns : List Int) : PyData := .tuple (ns.map PyData.int)
structure IntsOk (ds : List PyData) (n : Nat) : Prop where
  ls : PyData.leavesShortAll 13 ds = true
  wt : PyData.weightAll ds ≤ n
  sh : PyData.showableAll ds = true
  hd : PyData.hasDictAll ds = false
  dp : PyData.depthAll ds ≤ 1
theorem log40 {n : Nat} (h : n < 10 ^ 12) : n.log2 + 1 ≤ 40 := by
  by_cases z : n = 0
  · subst z; decide
  · have : n.log2 < 40 := (Nat.log2_lt z).mpr (Nat.lt_of_lt_of_le h (by decide))
    omega
theorem ints_ok : ∀ {ns : List Int}, (∀ n ∈ ns, n.natAbs < 10 ^ 12) → IntsOk (ns.map PyData.int) (41 * ns.length)
  | [], _ => ⟨rfl, Nat.le_refl _, rfl, rfl, Nat.zero_le _⟩
  | n :: r, h => by
    have hn := h n List.mem_cons_self
    obtain ⟨a, b, c, d, e⟩ := ints_ok (ns := r) fun m hm => h m (List.mem_cons_of_mem _ hm)
    have l := log40 hn
    refine ⟨?_, ?_, ?_, ?_, ?_⟩
    · show (decide ((PyData.shown (.int n)).length ≤ 13) && PyData.leavesShortAll 13 (r.map PyData.int)) = true
      rw [a, decide_eq_true (PyData.shown_int_le hn)]
      rfl
    · show (if n == 0 then 0 else n.natAbs.log2 + 1) + 1 + PyData.weightAll (r.map PyData.int) ≤ 41 * (r.length + 1)
      split <;> omega
    · show (decide (n.natAbs.log2 < 1920) && PyData.showableAll (r.map PyData.int)) = true
      rw [c, decide_eq_true (by omega)]
      rfl
    · show (false || PyData.hasDictAll (r.map PyData.int)) = false
      rw [d]
      rfl
    · show max 0 (PyData.depthAll (r.map PyData.int)) ≤ 1
      omega
theorem tups_ok : ∀ {nss : List (List Int)}, (∀ ns ∈ nss, ns.length ≤ 10 ∧ ∀ n ∈ ns, n.natAbs < 10 ^ 12) → IntsOk (nss.map tupD) (411 * nss.length)
  | [], _ => ⟨rfl, Nat.le_refl _, rfl, rfl, Nat.zero_le _⟩
  | ns :: r, h => by
    obtain ⟨hl, hn⟩ := h ns List.mem_cons_self
    obtain ⟨a, b, c, d, e⟩ := tups_ok (nss := r) fun m hm => h m (List.mem_cons_of_mem _ hm)
    obtain ⟨a', b', c', d', e'⟩ := ints_ok hn
    refine ⟨?_, ?_, ?_, ?_, ?_⟩
    · show (PyData.leavesShortAll 13 (ns.map PyData.int) && PyData.leavesShortAll 13 (r.map tupD)) = true
      rw [a, a']
      rfl
    · show PyData.weightAll (ns.map PyData.int) + 1 + PyData.weightAll (r.map tupD) ≤ 411 * (r.length + 1)
      omega
    · show (PyData.showableAll (ns.map PyData.int) && PyData.showableAll (r.map tupD)) = true
      rw [c, c']
      rfl
    · show (PyData.hasDictAll (ns.map PyData.int) || PyData.hasDictAll (r.map tupD)) = false
      rw [d, d']
      rfl
    · show max (PyData.depthAll (ns.map PyData.int) + 1) (PyData.depthAll (r.map tupD)) ≤ 1
      have := depth_ints ns
      omega
/-- what repr asks of a list -/
theorem rep_of {K : PySem.W.Frag} {H : Hp} {a : Addr} {ds : List PyData} {n : Nat} {Q : VK} (hd : Dp K H (.ref a) (.list ds)) (o : IntsOk ds n) (hn : n ≤ 1000000) (q : Q (.str (PyData.shown (.list ds))) H) : rRepr K [.ref a] H Q :=
  ⟨a, .list ds, rfl, hd, o.sh, o.hd, PyData.shown_fits (B := 13) (by decide) (by decide) o.ls (Nat.le_trans o.wt (Nat.le_trans hn (by decide))), by show PyData.depthAll ds + 1 ≤ 60; have := o.dp; omega, q⟩
theorem dpAll_tps {K : PySem.W.Frag} {H : Hp} : ∀ {vs : List V} {nss : List (List Int)}, Paired (Tp K H) vs nss → DpAll K H vs (nss.map tupD)
  | _, _, .nil => .nil
  | _, _, .cons h t => .cons h.dp (dpAll_tps t)
theorem dp_list {K : PySem.W.Frag} {H : Hp} {a : Addr} {vs : List V} {ds : List PyData} (h : H a = some (.lst vs)) (hd : DpAll K H vs ds) : Dp K H (.ref a) (.list ds) := .lst (SqL.of h) hd
theorem fnd_r {K : PySem.W.Frag} {mg : Str → Option Value} {x : Str} {ps : List Str} {P : Program} {w : World} {base : Heap} {k : Nat} {sp : Sp} {f : Addr} {fd : FuncData}
    (G : FnOk P w K mg base CX0 k f fd ps sp) (m : mg x = some (.ref f)) (kp : PySem.W.keepIn K (.ref f) = true)
    (b : ∀ (s : Shared) (ws : List Value), K.In s.heap → ws.length = ps.length → BindsTo s fd ⟨[], ps.reverse.zip ws⟩ (ps.zip ws.reverse)) : HasR P w K mg base x ps k sp := ⟨f, fd, G, m, kp, b⟩
end Ur

set_option
      maxHeartbeats 2000000
namespace Ur
open PySem L2 PyProof.Rows
abbrev Clause := Value × (Addr → Value → Option Addr → TS)
def endsAt (i : Nat) (D : Ends) : Ends := ⟨fun σ H => D.nx (σ.set i none) H, D.rt, fun σ H => D.bk (σ.set i none) H, fun σ H => D.ct (σ.set i none) H⟩
/-- the wish of clauses that all bind slot i: the first that fits takes it -/
def wCl (K : PySem.W.Frag) (i : Nat) (W0 : WX) (D : Ends) : List Clause → WX
  | [] => W0
  | (c, ts) :: r => fun cls d σ H => ∃ b, PySem.W.exmOne K cls c = some b ∧ (b = true → ∀ a, H a = none → ts a cls d (endsAt i D) (σ.set i (some (.ref a))) H) ∧ (b = false → wCl K i W0 D r cls d σ H)
inductive ClOk (X : Cx) (n : Str) : List ExceptHandler → List Clause → Prop
  | none : ClOk X n [] []
  | more {x : Str} {c : Value} {ts : Addr → Value → Option Addr → TS} {b : Stmt} {bs : List Stmt} {p p' : Pos} {hds : List ExceptHandler} {l : List Clause} (hc : Names X x c)
      (hs : ∀ (a : Addr) (oe : Obj) (cls : Value) (d : Option Addr) (pn : List (Addr × Obj)), Zc cls d oe → (∃ vs, oe.data = .fields vs) → PSs (X.suite a ((a, oe) :: pn)) (b :: bs) (ts a cls d)) (r : ClOk X n hds l) :
      ClOk X n (.ExceptHandler (some (.Name x p)) (some n) (b :: bs) p' :: hds) ((c, ts) :: l)
section
variable {X : Cx} {n : Str} {i : Nat} {body : List Stmt} {h0 : ExceptHandler} {hds : List ExceptHandler} {l : List Clause} {pos : Pos} {tb : WX → TS} {W0 : WX}
theorem ps_try_cl (hs : X.stack = X.env :: X.outer) (hf : X.env.frame = some X.env.locals) (hN : X.N.Nodup) (hi : X.N[i]? = some n) (hln : X.env.kindOf n = some .local) (tk : Takes X W0)
    (hb : ∀ (W : WX) (pn : List (Addr × Obj)) (xe : Value → Shared → Prop), Takes (X.tr pn xe) W → PSs (X.tr pn xe) body (tb W))
    (hh : ClOk X n (h0 :: hds) l) : PS X (.Try body (h0 :: hds) [] [] pos) (fun D σ H => tb (wCl X.K i W0 D l) D σ H) := by
  constructor
  intro pins s σ H D I h
  have ok := I.ok
  have hfr : X.A.frames = some (X.env :: X.outer) := ok.frames.trans (congrArg some hs)
  apply wpAny_Try_except
  let xe : Value → Shared → Prop := fun e s1 => wpAny (model X.prog X.w) X.A (noteFrame e X.env)
    (fun _ s2 => wpAny (model X.prog X.w) X.A (setFlight e none) (fun _ s3 => wpAny (model X.prog X.w) X.A (handleBy e X.env (h0 :: hds)) (SP X pins D) X.xe s3) X.xe s2) X.xe s1
  have took : Takes (X.tr (X.pn ++ pins) xe) (wCl X.K i W0 D l) := by
    rintro u s' ⟨a, B, sI, pins', σ', H', cls, d, rfl, J', nb, up, sky, na, os, ag, w⟩
    have J : Inv X pins σ'
          H' sI := J'.ofTry ok
    rw [show (X.tr (X.pn ++ pins) xe).stack = X.env :: X.outer from hs] at sky
    show wpAny _ X.A (noteFrame (.ref a) X.env) _ _ _
    refine Sky.land Zc.steady hfr hf sky ?_
    intro h3 fl up3
    obtain ⟨oe, vs, he,
          hz, hd⟩ := fl.there
    have J3 : Inv X pins σ' H' { s' with heap := h3 } := J.landed nb fl.1 (up.trans up3) os ag
    have out : a ∉ frs (X.env :: X.outer) := by
      intro hm
      obtain ⟨_, o', e', hnf⟩ := fl.2.2.1.mem hm
      rw [he] at e'
      obtain rfl :=
            Option.some.inj e'
      exact hnf _ hd
    have nL : a ≠ X.env.locals := by
      rintro rfl
      exact out (List.mem_filterMap.mpr ⟨X.env, List.mem_cons_self, by rw [hf]⟩)
    have nF : a ∉ X.fs := by
      intro hm
      obtain ⟨e, he, q⟩ :=
            List.mem_filterMap.mp hm
      exact out (List.mem_filterMap.mpr ⟨e, List.mem_cons_of_mem _ he, q⟩)
    have S3 := J3.suite he hd na nL nF
    have LT : PySem.W.Looks (model X.prog X.w) h3 (typeOf (.ref a)) cls := fun A Q E s k q => wpAny_typeOf_ref (k _ _ he) (hz.1.symm ▸ q)
    suffices go : ∀ {hs' : List ExceptHandler} {l' : List Clause}, ClOk X n hs' l' → wCl X.K i W0 D l' cls d σ' H' →
        wpAny (model X.prog X.w) X.A (handleBy (.ref a) X.env hs') (SP X pins D) X.xe { s' with heap := h3 } from go hh w
    intro hs' l' hk
    induction hk with
    | none =>
      intro w
      apply wpAny_handleBy_nil
      obtain ⟨_, _, _, oe', vs', T, oT, ts', he', hz', hd', h1, hr⟩ := id fl
      unfold PySem.passOn
      refine wpAny_bind (wpAny_field he' hd' h1 ?_)
      rw [if_neg (by simp)]
      have fin : wpAny (model X.prog X.w) X.A (setFlight (.ref a) X.env.frame) (fun _ s4 => wpAny (model
            X.prog X.w) X.A (throw (.ref a) : Sem Flow) (SP X pins D) X.xe s4) X.xe { s' with heap := h3 } := by
        rw [hf]
        refine HandSPX.setFlight_upZ fl ?_
        intro h4 hh4 up4
        exact wpAny_throw (tk _ _ ⟨a, B, sI, pins, σ', H', cls, d, rfl, J, nb, (up.trans up3).trans up4, .inr (.inr (by rw [hs]; exact hh4)), na, os, ag, w⟩)
      first
        | exact wpAny_bind
              (wpAny_pure (wpAny_bind fin))
        | exact wpAny_bind fin
    | @more x c ts b bs p p' hds2 l2 hc hsu r ih =>
      rintro ⟨bl, hb1, yes, no⟩
      apply wpAny_handleBy_cons
      · apply codeAny_handlers_test
        have LM := PySem.W.exm_one (M := model X.prog X.w) J3.kIn LT hb1
        have see : ∀ {Q E}, Q c { s' with heap := h3 } → wpAny (model X.prog X.w) (X.A.mark (some (.ref a))) (eval (.Name x p) X.env) Q E { s' with heap := h3 } := by
          intro Q E q
          obtain ⟨hg, hdb, hm | ⟨hm, hv, hnn⟩⟩ := hc
          · exact ld_glob (X := X.suite a ((a, oe) :: (X.pn ++ pins))) S3 hg hm q hdb
          · exact ld_blt (X := X.suite a ((a, oe) :: (X.pn ++ pins))) S3 hg hm hv q hnn hdb
        refine see (LM.here ?_)
        cases bl with
        | false => exact ih (no rfl)
        | true =>
          apply codeAny_handlers_suite_as
          refine HandSPX.lands_againZ fl ?_
          intro h4 fl4 up4
          have J4 : Inv X pins σ' H' { s' with heap := h4 } :=
                J.landed nb fl4.1 ((up.trans up3).trans up4) os ag
          obtain ⟨oe4, vs4, he4,
                hz4, hd4⟩ := fl4.there
          have S4 := J4.suite
                he4 hd4 na nL nF
          refine store_ok (X := X.suite a ((a, oe4) :: (X.pn ++ pins))) (v := .ref a) S4 hN hi (.inl hln) rfl ?_ (.inr hln)
          intro s5 S5
          refine wpAny_mono ((hsu a oe4 cls d (X.pn ++ pins) hz4 ⟨_, hd4⟩).run [] s5 _ H' _ S5 (yes rfl a na)) ?_ fun _ _ z => z.elim
          intro f s6 hsp
          have end_ : ∀ {σ6 H6} {Q : Shared → Prop}, Inv (X.suite a ((a, oe4) :: (X.pn ++ pins))) [] σ6 H6 s6 → (∀ s7, Inv X pins (σ6.set i none) H6 s7 → Q s7) →
              wpAny (model X.prog X.w) X.A (do bindName X.env n .none; unbindBehindTheSuite X.env n p') (fun _ s7 => Q s7) X.xe s6 := fun S6 hq => gone_ok (S6.unsuite ok) hN hi hln hq
          match f, hsp with
          | .next, ⟨σ6, H6, S6, q6⟩ => exact end_ S6 fun s7 J7 => ⟨_, _, J7, q6⟩
          | .brk, ⟨σ6, H6, S6, q6⟩ => exact end_ S6 fun s7 J7 => ⟨_, _, J7, q6⟩
          | .cont, ⟨σ6, H6, S6, q6⟩ => exact end_ S6 fun s7 J7 => ⟨_, _, J7, q6⟩
          | .ret u, ⟨v6, σ6, H6, S6, r6, q6⟩ => exact end_ S6 fun s7 J7 => ⟨_, _, _, J7, r6, q6⟩
      · intro q
        cases q
  refine wpAny_mono ((hb _ (X.pn ++ pins) xe took).run [] s σ H D (I.toTry _) h) ?_ fun e s1 he => he
  intro f s1 hsp
  match f, hsp with
  | .next, ⟨σ', H', J', q⟩ => exact wpAny_execs_nil ⟨σ', H', J'.ofTry ok, q⟩
  | .brk, ⟨σ', H', J', q⟩ => exact ⟨σ', H', J'.ofTry ok, q⟩
  | .cont, ⟨σ', H', J', q⟩ => exact ⟨σ', H', J'.ofTry ok, q⟩
  | .ret u, ⟨v, σ', H', J', r, q⟩ => exact ⟨v, σ', H', J'.ofTry ok, r, q⟩
end
end Ur

set_option
      maxHeartbeats 2000000
namespace Ur
open PySem L2 PyProof.Rows LamX
section
variable {P : Program} {w : World} {K : PySem.W.Frag} {mg mb : Str → Option Value} {k : Nat} {fa a : Addr} {cs : List (Addr × Addr)} {fd : FuncData} {x : Str} {sp : Sp} {s1 : Shared} {vs : List Value} {ns : List Int}
/-- what is known of the makers' code objects and their tables, at the start -/
structure TabIn (K : PySem.W.Frag) (mg : Str → Option Value) (cs : List (Addr × Addr)) (s1 : Shared) : Prop where
  tab : ∀ p ∈ cs, s1.heap.get? p.2 = some { cls := .none, data := .fields #[] }
  not : ∀ p ∈ cs, K.lookup p.2 = none
  code : ∀ p ∈ cs, PySem.W.CodeHd s1.heap p.1 p.2
  bm : ∃ (bm : Addr) (ob : Obj), mg "__builtins__" = some (.ref bm) ∧ bm ≠ builtinsNs ∧ s1.heap.get? bm = some ob ∧ ob.cls = .type "module" ∧ ob.dict = some builtinsNs ∧ ob.data = .plain
/-- what may be tracked at the start: the script and the tables -/
def Few (K : PySem.W.Frag) (cs : List (Addr × Addr)) (a : Addr) (H : Hp) : Prop := ∀ b, H b = none ∨ ((∃ p ∈ cs, p.2 = b) ∧ H b = some (.tbl #[])) ∨ (b = a ∧ K.lookup a = none ∧ ∃ o ys, H b = some (.frz o (.lst ys)))
theorem goesT_of {H : Hp} (KX : K.In s1.heap) (hns : s1.heap.Ns mainGlobals mg) (hb : s1.heap.Ns builtinsNs mb) (hbb : ∀ y : Str, y ≠ "__name__" → mb y = bootBuiltins y) (hlim : s1.heap.NoLimit) (hg : s1.gens = #[]) (Z : TabIn K mg cs s1)
    (ha : s1.heap.get? a = some { cls := .type "list", data := .seq vs.toArray }) (hr : Room k callerA)
    (F : ∀ base : Heap, K.In base → base.Ns mainGlobals mg → (∀ p ∈ cs, TabB base mg p.1 p.2) → FnG P w K mg base CX0 k fa fd [x] sp) (bind : ∀ (s : Shared) (u : Value), BindsTo s fd ⟨[u], []⟩ [(x, u)])
    (hok : HOk P w H s1.heap) (hsp : sp [.ref a] H (fun v _ => v = .bl true) fun _ _ _ => False) (few : Few K cs a H) (hall : ∀ p ∈ cs, H p.2 = some (.tbl #[])) : Goes fa a P w s1 := by
  have seen : ∀ {b o}, s1.heap.get? b = some o → H b = none → (hidT s1.heap H).get? b = some o := fun e z => hidT_get e z
  -- what is no list and no empty table is not tracked
  have free : ∀ {b o}, s1.heap.get? b = some o → (∀ its n, o.data ≠ .seq its n) → o.data ≠ .fields #[] → H b = none := by
    intro b o e d1 d2
    rcases few b with z | ⟨⟨p, hp, rfl⟩, _⟩ | ⟨rfl, _, _⟩
    · exact z
    · rw [Z.tab p hp] at e
      obtain rfl := Option.some.inj e
      exact absurd rfl d2
    · rw [ha] at e
      obtain rfl := Option.some.inj e
      exact absurd rfl (d1 _ _)
  have up : ∀ {b m}, s1.heap.Ns b m → (hidT s1.heap H).Ns b m := by
    rintro b m ⟨o, es, ep, e, d, r⟩
    refine ⟨o, es, ep, seen e (free e ?_ ?_), d, r⟩
    · intro its n z
      rw [d] at z
      cases z
    · intro z
      rw [d] at z
      cases z
  have KB : K.In (hidT s1.heap H) := by
    intro b o e
    refine seen (KX b o e) ?_
    rcases few b with z | ⟨⟨p, hp, rfl⟩, _⟩ | ⟨rfl, z, _⟩
    · exact z
    · rw [Z.not p hp] at e; cases e
    · rw [z] at e; cases e
  obtain ⟨mc, l1, l2⟩ := hlim
  have M : Mod K mg (hidT s1.heap H) := { kin := KB, glob := up hns, blt := ⟨mb, up hb, hbb⟩, nolimit := ⟨mc, up l1, l2⟩ }
  have e0 : Env0 P w K mg (hidT s1.heap H) callerA [] s1 H :=
    { frames := rfl, mod := M, bs := fun b o e => of_hidT e, bsz := Nat.le_of_eq (hidT_size _ _), funs := trivial, frf := fun b z => (by cases (show b ∈ ([] : List Addr) from z)), hok := hok, bare := .of_eq hg }
  have TB : ∀ p ∈ cs, TabB (hidT s1.heap H) mg p.1 p.2 := by
    intro p hp
    refine ⟨?_, ?_, ?_⟩
    · obtain ⟨o, us, file, tf, flags, tg, inF, text, tt, e1, r1, r2, r3, r⟩ := Z.code p hp
      refine ⟨o, us, file, tf, flags, tg, inF, text, tt, seen e1 (free e1 ?_ ?_), r1, r2, r3, r⟩
      · intro its n z
        rw [r2] at z
        cases z
      · intro z
        rw [r2] at z
        cases z
        simp at r3
    · obtain ⟨bm, ob, b1, b2, b3, b4, b5, b6⟩ := Z.bm
      have plain : ∀ (its n), ob.data ≠ .seq its n := by
        intro its n z
        rw [b6] at z
        cases z
      refine ⟨bm, ob, b1, b2, ?_, ?_, seen b3 (free b3 plain ?_), b4, b5, b6⟩
      · rintro rfl
        obtain ⟨o, es, ep,
              e, hd, _⟩ := hns
        rw [e] at b3
        obtain rfl := Option.some.inj b3
        rw [hd] at b6
        cases b6
      · rintro rfl
        rw [Z.tab p hp] at b3
        obtain rfl := Option.some.inj b3
        cases b6
      · intro z
        rw [b6] at z
        cases z
    · intro z
      obtain ⟨o, es, ep,
            e, hd, _⟩ := hns
      rw [z, Z.tab p hp] at e
      obtain rfl := Option.some.inj e
      cases hd
  refine codeAny_mono ((F _ KB (up hns) TB).go callerA [] s1 H ⟨[.ref a], []⟩ [.ref a] [.ref a] _ _ rfl hr e0 (bind s1 (.ref a)) (.cons rfl .nil) hsp) ?_
  intro r s' h
  match r, h with
  | .ok (.ret u), ⟨v, H', os, bare, un, hok', rv, hv⟩ =>
    obtain rfl : v = .bl true := hv
    obtain rfl : u = Value.bool true := rv
    have stays : ∀ b o, (∀ p ∈ cs, p.2 ≠ b) → s1.heap.get? b = some o → s'.heap.get? b = some o := by
      intro b o nb e
      rcases few b with z | ⟨⟨p, hp, q⟩, _⟩ | ⟨rfl, _, oo, ys, z⟩
      · exact un.keep b o e z (fun q => (by cases (show b ∈ ([] : List Addr) from q))) (fun q => nomatch q)
      · exact absurd q (nb p hp)
      · have e1 := (hok b _ z).1
        have e2 := (hok' b _ (un.frzs b oo _ z)).1
        rw [e] at e1
        obtain rfl :=
              Option.some.inj e1
        exact e2
    have grown : ∀ p ∈ cs, ∃ more : Array Value, s'.heap.get? p.2 = some { cls := .none, data := .fields more } := by
      intro p hp
      obtain ⟨more, z⟩ := un.tbls p.2 #[] (hall p hp)
      exact ⟨_, hok' p.2 _ z⟩
    refine ⟨rfl, ⟨?_, ?_⟩, os, bare⟩
    · intro b o e
      by_cases hb : ∃ p ∈ cs, p.2 = b
      · obtain ⟨p, hp, rfl⟩ := hb
        obtain ⟨more,
              hm⟩ := grown p hp
        rw [Z.tab p hp] at e
        obtain rfl := Option.some.inj e
        exact .inr (.inl ⟨((Z.code p hp).tab (Z.tab p hp)).isCodeTable, rfl, #[], more, rfl, by rw [Array.empty_append]; exact hm⟩)
      · exact .inl (stays b o (fun p hp q => hb ⟨p, hp, q⟩) e)
    · intro b o e
      by_cases hb : ∃ p ∈ cs, p.2 = b
      · obtain ⟨p, hp, rfl⟩ := hb
        obtain ⟨more,
              hm⟩ := grown p hp
        exact ⟨_, hm⟩
      · exact ⟨o, stays b o (fun p hp q => hb ⟨p, hp, q⟩) e⟩
theorem goesT (KX : K.In s1.heap) (hns : s1.heap.Ns mainGlobals mg) (hb : s1.heap.Ns builtinsNs mb) (hbb : ∀ y : Str, y ≠ "__name__" → mb y = bootBuiltins y) (hlim : s1.heap.NoLimit) (hg : s1.gens = #[]) (Z : TabIn K mg cs s1)
    (ha : s1.heap.get? a = some { cls := .type "list", data := .seq vs.toArray }) (hi : IntsAre vs ns) (hl : ns.length ≤ sizeLine) (hr : Room k callerA)
    (F : ∀ base : Heap, K.In base → base.Ns mainGlobals mg → (∀ p ∈ cs, TabB base mg p.1 p.2) → FnG P w K mg base CX0 k fa fd [x] sp) (bind : ∀ (s : Shared) (u : Value), BindsTo s fd ⟨[u], []⟩ [(x, u)])
    (hsp : ∀ H : Hp, (∀ p ∈ cs, H p.2 = some (.tbl #[])) → SqL K H a (ns.map V.int) → sp [.ref a] H (fun v _ => v = .bl true) fun _ _ _ => False) : Goes fa a P w s1 := by
  have rv := vals_ints hi
  have nota : ∀ p ∈ cs, p.2 ≠ a := by
    rintro p hp rfl
    have := Z.tab p hp
    rw [ha] at this
    cases this
  classical
  let T : Hp := fun b => if ∃ p ∈ cs, p.2 = b then some (.tbl #[]) else none
  have hT : ∀ p ∈ cs, T p.2 = some (.tbl #[]) := fun p hp => if_pos ⟨p, hp, rfl⟩
  have tabOk : ∀ b u, T b = some u → ObjOk P w T s1.heap b u := by
    intro b u z
    by_cases hb : ∃ p ∈ cs, p.2 = b
    · have z' := (if_pos
          hb).symm.trans z
      cases z'
      obtain ⟨p, hp, rfl⟩ := hb
      exact Z.tab p hp
    · have z' := (if_neg
          hb).symm.trans z
      cases z'
  cases hk : K.lookup a with
  | some o =>
    have e := KX a o hk
    rw [ha] at e
    obtain rfl := Option.some.inj e
    refine goesT_of (H := T) KX hns hb hbb hlim hg Z ha hr F bind tabOk (hsp T hT (Or.inr ⟨_, vs.toArray, _, hk, rfl, rfl, rfl, ?_, ?_⟩)) ?_ hT
    · rw [List.size_toArray, hi.length]; exact hl
    · exact rv
    · intro b
      by_cases hb : ∃ p ∈ cs, p.2 = b
      · exact Or.inr (Or.inl ⟨hb, if_pos hb⟩)
      · exact Or.inl (if_neg hb)
  | none =>
    let o : Obj := { cls := .type "list", data := .seq vs.toArray }
    let H : Hp := upd T a (.frz o (.lst (ns.map V.int)))
    have hH : H a = some (.frz o (.lst (ns.map V.int))) := upd_same
    have hT2 : ∀ p ∈ cs, H p.2 = some (.tbl #[]) := by
      intro p hp
      rw [show H p.2 = T p.2 from upd_ne (nota p hp)]
      exact hT p hp
    refine goesT_of (H := H) KX hns hb hbb hlim hg Z ha hr F bind ?_ (hsp H hT2 (Or.inl (Or.inr ⟨o, hH⟩))) ?_ hT2
    · intro b u z
      by_cases e : b = a
      · subst e
        rw [hH] at z
        obtain rfl := Option.some.inj z
        refine ⟨ha, ?_, vs, _, rv, ha⟩
        rw [List.length_map]
        exact hl
      · rw [show H b = T b from upd_ne e] at z
        by_cases hb : ∃ p ∈ cs, p.2 = b
        · have z' := (if_pos
              hb).symm.trans z
          cases z'
          obtain ⟨p, hp, rfl⟩ := hb
          exact Z.tab p hp
        · have z' := (if_neg
              hb).symm.trans z
          cases z'
    · intro b
      by_cases e : b = a
      · exact Or.inr (Or.inr ⟨e, hk, o, _, by rw [e]; exact hH⟩)
      · by_cases hb : ∃ p ∈ cs, p.2 = b
        · exact Or.inr (Or.inl ⟨hb, (show H b = T b from upd_ne e).trans (if_pos hb)⟩)
        · exact Or.inl ((show H b = T b from upd_ne e).trans (if_neg hb))
end
theorem walkGT {l : PySem.W.OpenLaw} {n k : Nat} {q : Program} {loose : List Str} {XP : (Str → Option Value) → Heap → Prop} {YP : World → Heap → Prop} {d : DefRec} {K : Params → PySem.W.Frag} {cs : List (Addr × Addr)} {sp : PySem.W.Frag → Sp} {x : Str}
    (hn : l.most = some n) (hn2 : n ≤ sizeLine) (hdf : d.params.defaults = []) (hr
          : Room k callerA) (hY : ∀ (w : World) (h : Heap), YP w h → (K w.params).In h ∧ (∀ p ∈ cs, h.get? p.2 = some { cls := .none, data := .fields #[] }) ∧ (∀ p ∈ cs, (K w.params).lookup p.2 = none) ∧ ∀ p ∈ cs, PySem.W.CodeHd h p.1 p.2)
    (F : ∀ (w : World) (mg : Str → Option Value) (fa : Addr) (h : Heap),
          (K w.params).In h → h.Ns mainGlobals mg → mg d.name = some (.ref fa) →
      ∃ fd : FuncData, (∀ (s : Shared) (u : Value), BindsTo s fd ⟨[u], []⟩ [(x, u)]) ∧ ∀ base : Heap, (K w.params).In base → base.Ns mainGlobals mg → (∀ p ∈ cs, TabB base mg p.1 p.2) → FnG l.prog w (K w.params) mg base CX0 k fa fd [x] (sp (K w.params)))
    (hsp : ∀ (K : PySem.W.Frag) (H : Hp) (a : Addr) (ns : List Int), ns.length ≤ n → (∀ p ∈ cs, H p.2 = some (.tbl #[])) → SqL K H a (ns.map V.int) → sp K [.ref a] H (fun v _ => v = .bl true) fun _ _ _ => False) :
    PySem.W.WalkO q loose XP YP l.row.toRowW
          d [] (fun f vs => PySem.call f vs) := by
  apply Att.attach_call hn hdf
  intro w s0 s1 mg mb fa o pm cd doc a vs ns G Y ho hd hcd hmg hobj hints hlen hg
  obtain ⟨KX, y1, y2, y3⟩ := hY w _ Y
  obtain ⟨fd, hb, hF⟩ :=
        F w mg fa _ KX G.T.g hmg
  exact goesT KX G.T.g G.T.b G.T.builtins G.T.nolimit hg ⟨y1, y2, y3, G.T.bmain⟩ hobj hints (Nat.le_trans hlen hn2) hr hF hb fun H hH hS => hsp _ H a ns hlen hH hS
end Ur

set_option
      maxHeartbeats 2000000
namespace Ur
open PySem L2 PyProof.Rows LamX
/-! ### what is known stays where only tables of code objects grow -/
theorem xto {H H' : Hp} (e : ExtN H H') {b : Addr} {o : HO} (h : H b = some o) (n : ∀ ps, o ≠ .tbl ps := by intro _ z; cases z) : H' b = some o := e b o h n
theorem ext_same {H H' : Hp} (s : Same H H') : ExtN H H' := fun b o h _ => s b o h
theorem ext_sqT {K : PySem.W.Frag} {H H' : Hp} {a : Addr} {xs : List V} (e : ExtN H H') (h : SqT K H a xs) : SqT K H' a xs := by
  rcases h with (h
        | ⟨o, h⟩) | h
  · exact Or.inl (Or.inl (xto e h))
  · exact Or.inl (Or.inr ⟨o, xto e h⟩)
  · exact Or.inr h
theorem ext_sqL {K : PySem.W.Frag} {H H' : Hp} {a : Addr} {xs : List V} (e : ExtN H H') (h : SqL K H a xs) : SqL K H' a xs := by
  rcases h with (h
        | ⟨o, h⟩) | h
  · exact Or.inl (Or.inl (xto e h))
  · exact Or.inl (Or.inr ⟨o, xto e h⟩)
  · exact Or.inr h
theorem ofKd_ext {K : PySem.W.Frag} {H H' : Hp} {x : V} {k : Kd} (s : ExtN H H') (h : OfKd K H x k) : OfKd K H' x k := by
  unfold OfKd at h ⊢
  generalize Value.type k.nm = t at h ⊢
  cases h with
  | base b =>
    refine .base ?_
    cases b with
    | non => exact .non
    | bl y => exact .bl y
    | int i => exact .int i
    | str y => exact .str y
    | flt y => exact .flt y
    | lst e => exact .lst (xto s e)
    | frz e => exact .frz (xto s e)
    | tup e => exact .tup (xto s e)
    | dK e => exact .dK (xto s e)
    | dT e => exact .dT (xto s e)
    | ins e a b c d f => exact .ins (xto s e) a b c d f
  | byt y => exact .byt y
  | set e => exact .set (xto s e)
  | kList e c => exact .kList e c
  | kTuple e c => exact .kTuple e c
  | kDict e c => exact .kDict e c
  | fTuple e => exact .fTuple (xto s e)
  | fDict e => exact .fDict (xto s e)
mutual
theorem dp_ext {K : PySem.W.Frag} {H H' : Hp} (s : ExtN H H') : ∀ {v : V} {d : PyData}, Dp K H v d → Dp K H' v d
  | _, _, .non => .non
  | _, _, .bl b => .bl b
  | _, _, .int i => .int i
  | _, _, .str x => .str x
  | _, _, .lst h1 h2 => .lst (ext_sqL s h1) (dpAll_ext s h2)
  | _, _, .tup h1 h2 => .tup (ext_sqT s h1) (dpAll_ext s h2)
theorem dpAll_ext {K : PySem.W.Frag} {H H' : Hp} (s : ExtN H H') : ∀ {vs : List V} {ds : List PyData}, DpAll K H vs ds → DpAll K H' vs ds
  | _, _, .nil => .nil
  | _, _, .cons h1 h2 => .cons (dp_ext s h1) (dpAll_ext s h2)
end
theorem It.ext {K : PySem.W.Frag} {H H' : Hp} {y : V} (h : It K H y) (s : ExtN H H') : It K H' y :=
  ⟨let ⟨l, a⟩ := h.kd; ⟨l, ofKd_ext s a⟩, let ⟨d, a, b⟩ := h.dat; ⟨d, dp_ext s a, b⟩⟩
theorem Arg.ext {K : PySem.W.Frag} {H H' : Hp} {x : V} {k : Kd} {xs : List V} (A : Arg K H x k xs) (s : ExtN H H') : Arg K H' x k xs :=
  ⟨ofKd_ext s A.ty, fun e => let ⟨a, e1, e2, e3, e4, e5⟩ := A.its e; ⟨a, e1, ext_sqT s e2, e3, fun y hy => (e4 y hy).ext s, e5⟩⟩
/-! ### a value whose repr is known -/
def Rp (K : PySem.W.Frag) (H : Hp) (x : V) (t : Str) : Prop :=
  ∀ H', ExtN H H' → ∀ X : Cx, X.K = K → X.A.guards = some [] → X.A.units + 64 < cLine → CallR X (.builtin "repr") fun zs H0 Q => zs = [x] ∧ H0 = H' ∧ Q (.str t) H'
theorem Rp.ext {K : PySem.W.Frag} {H H' : Hp} {x : V} {t : Str} (h : Rp K H x t) (e : ExtN H H') : Rp K H' x t := fun H2 e2 => h H2 (e.trans e2)
def rRp (K : PySem.W.Frag) : List V → Hp → VK → Prop := fun xs H Q => ∃ x t, xs = [x] ∧ Rp K H x t ∧ Q (.str t) H
theorem call_rp {X : Cx} (hg : X.A.guards = some []) (hu : X.A.units + 64 < cLine) : CallR X (.builtin "repr") (rRp X.K) := by
  intro pins s σ
        H xs us Q I r h
  obtain ⟨x, t, rfl, h1, q⟩ := h
  exact h1 H (ExtN.refl H) X rfl hg hu pins s σ H _ us Q I r ⟨rfl, rfl, q⟩
theorem rp_dp {K : PySem.W.Frag} {H : Hp} {a : Addr} {d : PyData} (h : Dp K H (.ref a) d) (h1 : d.showable = true) (h2 : d.hasDict = false) (h3 : d.shown.length ≤ sizeLine) (h4 : d.depth ≤ 60) : Rp K H (.ref a) d.shown := by
  intro H' e X hX hg hu pins s σ H0 xs us Q I r h0
  obtain ⟨rfl, rfl, q⟩ := h0
  subst hX
  exact call_repr hg hu pins s σ H0 _ us Q I r ⟨a, d, rfl, dp_ext e h, h1, h2, h3, h4, q⟩
theorem rp_int {K : PySem.W.Frag} {H : Hp} (i : Int) (hz : i.natAbs.log2 < 1920) : Rp K H (.int i) (toString i) := by
  intro H' e X hX hg hu pins s σ H0 xs us Q I r h0
  obtain ⟨rfl, rfl, q⟩ := h0
  obtain ⟨u, rfl, t,
        rfl⟩ := vals1 r
  exact PySem.P.repr_of_int hz ⟨.str _, _, I.tok _, ⟨_, rfl⟩, q⟩
theorem rp_str {K : PySem.W.Frag} {H : Hp} (x : Str) (hz : (reprText x).length ≤ sizeLine) : Rp K H (.str x) (reprText x) := by
  intro H' e X hX hg hu pins s σ H0 xs us Q I r h0
  obtain ⟨rfl, rfl, q⟩ := h0
  obtain ⟨u, rfl, t,
        rfl⟩ := vals1 r
  exact PySem.P.repr_of_str ⟨.str _, _, I.tok _, ⟨_, rfl⟩, q⟩ hz
theorem rp_bl {K : PySem.W.Frag} {H : Hp} (b : Bool) : Rp K H (.bl b) (if b then "True" else "False") := by
  intro H' e X hX hg hu pins s σ H0 xs us Q I r h0
  obtain ⟨rfl, rfl, q⟩ := h0
  obtain ⟨u, rfl, hu⟩ := vals1 r
  obtain rfl := (show u = Value.bool b from hu)
  exact PySem.P.repr_of_bool ⟨.str _, _, I.tok _, ⟨_, rfl⟩, q⟩
theorem rp_non {K : PySem.W.Frag} {H : Hp} : Rp K H .non "None" := by
  intro H' e X hX hg hu pins s σ H0 xs us Q I r h0
  obtain ⟨rfl, rfl, q⟩ := h0
  obtain ⟨u, rfl, hu⟩ := vals1 r
  obtain rfl := (show u = Value.none from hu)
  exact PySem.P.repr_of_none ⟨.str _, _, I.tok _, ⟨_, rfl⟩, q⟩
theorem rp_dic {K : PySem.W.Frag} {H : Hp} {a : Addr} (h : H a = some (.dK [])) : Rp K H (.ref a) (PyData.shown (.dict [])) := by
  intro H' e X hX hg hu pins s σ H0 xs us Q I r h0
  obtain ⟨rfl, rfl, q⟩ := h0
  obtain ⟨u, rfl, hu⟩ := vals1 r
  obtain rfl := (show u = Value.ref a from hu)
  obtain ⟨_, hsm, vs, kv, o, es, ep, ho, hx, hd, hk, hp, _⟩ := dk_of I.hok (xto e h)
  cases kv
  have he : es.toList = [] := by
    generalize es.toList = l at hp
    cases hp
    rfl
  have hr : Reads s.heap (.ref a) (.dict []) (a :: [] ++ []) := by
    refine .dict ho hx.1 hd ?_ ?_
    · rw [he]; exact .nil
    · rw [he]; exact .nil
  refine repr_of_reads' hr rfl (fun _ hm => ?_) hg (by show _ + (PyData.depth _ + 1) < _; simp [PyData.depth, PyData.depthKv]; omega) (fun b o e => e) (fun h' u tk hk => ⟨.str _, _, I.kept hk, ⟨u, rfl⟩, q⟩) (by decide +kernel)
  simp at hm
  simp [hm] at hsm
/-- the shape of data that are shown -/
structure Shw (d : PyData) : Prop where
  sh : d.showable = true
  nd : d.hasDict = false
  ln : d.shown.length ≤ sizeLine
  dp : d.depth ≤ 60
end Ur

namespace K7
open PySem L2 Ur
def top (i : Nat) : Stmt := PySem.Challenge.pw_hullrests_k04_points_refused.main.body.getD i (.Pass ⟨0, 0, 0, 0⟩)
abbrev sUrn : Stmt := top 38
abbrev sPull : Stmt := top 39
abbrev sAny : Stmt := top 40
abbrev sLaps : Stmt := top 41
/-- what the top leaves of the built-in names -/
structure Bl (mg : Str → Option Value) : Prop where
  int : mg "int" = none
  abs : mg "abs" = none
  len : mg "len" = none
  max : mg "max" = none
  min : mg "min" = none
  divmod : mg "divmod" = none
  range : mg "range" = none
  tuple : mg "tuple" = none
  isinstance : mg "isinstance" = none
  bool : mg "bool" = none
  all : mg "all" = none
  repr : mg "repr" = none
section
variable {P : Program} {w : World} {K :
      PySem.W.Frag} {mg : Str → Option Value} {base : Heap}
def spPull : Sp := fun vs H Q _ => ∃ (u : Addr) (m : Int), vs = [.ref u, .int m] ∧ H u = some (UrnO u) ∧ 0 < m ∧ m < 1073741824 ∧ ∀ (r : Int) (H' : Hp), 0 ≤ r → r < m → Same H H' → Q (.int r) H'
abbrev nPull : List Str := ["_law_urn_here", "_law_many", "_law_digit"]
theorem scPull : FnScope nPull ["_law_urn_here", "_law_many"] (defScope sPull) := ⟨rfl, rfl, rfl, by decide +kernel, rfl, by decide +kernel, by decide +kernel⟩
theorem ok_pull {f : Addr} {fd : FuncData} (F : Fun K "_law_pull" "_law_pull" sPull f fd) (T : Bl mg) : FnOk P w K mg base CX0 1 f fd ["_law_urn_here", "_law_many"] spPull := by
  refine F.ok scPull (fun vs H Q E h => ?_) (fun cdv A outer s H vs Q E hr h => ?_)
  · obtain ⟨u, m, rfl, _⟩ := h
    rfl
  · obtain ⟨u, m, rfl, hu, m0, m1, k⟩ := h
    refine ⟨_, pss_urn (pss_cons (ps_if (pt_cmpR op_gt (pe_ix ix_list (pv 0) pe_int (fun _ _ => rfl)) pe_int (nomark _))
        (pss_cons (ps_asg (pe_callB call_divmod (by rfl) T.divmod PyProof.Rows.boot_divmod (pa_cons (pe_ix ix_list (pv 0) pe_int (fun _ _ => rfl)) (pa_cons (pv 1) pa_nil)))
            (pg_tup rfl (pgs_cons (pg_sub (pv 0) pe_int set_list (fun _ => rfl)) (pgs_cons (pg_name (i := 2) scPull.nd rfl (Or.inl rfl)) pgs_nil))))
          (pss_one (ps_ret (pv 2)))) pss_nil)
      (pss_cons (ps_asg (pe_op op_mod (pe_callTy call_int1 (by rfl) T.int PyProof.Rows.boot_int (pa_cons (pe_op op_add (pe_op op_mul (pe_ix ix_list (pv 0) pe_int (fun _ _ => rfl)) pe_int) pe_int) pa_nil)) pe_int) (pg_sub (pv 0) pe_int set_list (fun _ => rfl)))
      (pss_cons (ps_asg (pe_op op_mod (pe_callTy call_int1 (by rfl) T.int PyProof.Rows.boot_int (pa_cons (pe_op op_add (pe_op op_mul (pe_ix ix_list (pv 0) pe_int (fun _ _ => rfl)) pe_int) (pe_ix ix_list (pv 0) pe_int (fun _ _ => rfl))) pa_nil)) pe_int) (pg_sub (pv 0) pe_int set_list (fun _ => rfl)))
      (pss_one (ps_ret (pe_op op_mod (pe_callTy call_int1 (by rfl) T.int PyProof.Rows.boot_int (pa_cons (pe_op op_fdiv (pe_ix ix_list (pv 0) pe_int (fun _ _ => rfl)) pe_int) pa_nil)) (pv 1))))))), ?_⟩
    refine ⟨u, hu, fun a b c B => ?_⟩
    have hq : ∀ (H' : Hp) (r : Int) (a' b' c' : Int), 0 ≤ r → r < m → Bd a' b' c' → (∀ x o, H x = some o → x ≠ u → H' x = some o) → H' u = some (.lst (nums a' b' c')) → Shut u (Q (.int r)) H' := by
      intro H' r a' b' c' r0 r1 B' keep at'
      refine ⟨a', b', c', B', at', k r _ r0 r1 ?_⟩
      intro x o e
      by_cases z : x = u
      · subst z; rw [hu] at e; cases e; exact upd_same
      · rw [upd_ne z]; exact keep x o e z
    have keep0 : ∀ xs x o, H x = some o → x ≠ u → (upd H u (.lst xs)) x = some o := fun xs x o e z => by rw [upd_ne z]; exact e
    refine ⟨_, rfl, u, nums a b c, 0, _, rfl, rfl, SqL.of upd_same, rfl, _, _, rfl, rfl, _, rfl, ?_⟩
    refine ite2 (fun _
          => ?_) (fun _ => ?_)
    · refine ⟨_, rfl, u, nums a b c, 0, _, rfl, rfl, SqL.of upd_same, rfl, _, rfl, a, m, rfl, ⟨m0, m1⟩, fun p hp => ?_⟩
      have npu : p ≠ u := fun z => by rw [z, upd_same] at hp; cases hp
      have npu2 : u ≠ p := fun z => npu z.symm
      refine ⟨p, _, rfl, SqT.of upd_same, rfl, _, _, rfl, ?_⟩
      refine ⟨_, rfl, u, nums a b c, 0, 0, rfl, rfl, by rw [upd_ne npu2, upd_same], rfl, ?_⟩
      refine ⟨_, _, rfl, rfl, ?_⟩
      refine ⟨_, rfl, ?_⟩
      refine hq _ (a % m) (a / m) b c (Int.emod_nonneg _ (by omega)) (Int.emod_lt_of_pos _ m0) ⟨Int.ediv_nonneg B.a0 (by omega), B.b0, B.b1, B.c0, B.c1⟩ (fun x o e z => ?_) upd_same
      rw [upd_ne z, upd_ne (ne_of_none (upd_ne z ▸ e : (upd H u _) x = some o) hp), upd_ne z]
      exact e
    · have b2 := B.b1
      have b3 := B.b0
      have c2 := B.c1
      have c3 := B.c0
      refine ⟨_, rfl, u, nums a b c, 1, _, rfl, rfl, SqL.of upd_same, rfl, _, _, rfl, rfl, Or.inl ⟨by omega, by omega⟩, _, _, rfl, rfl, Or.inl ⟨_, rfl, _, _, rfl, rfl, (by show (0 : Int) < 2147483629; decide), ?_⟩⟩
      refine ⟨_, rfl, u, nums a b c, 1, 1, rfl, rfl, upd_same, rfl, ?_⟩
      rw [upd_upd]
      refine ⟨_, rfl, u, nums a ((b * 37199 + 1201) % 2147483629) c, 2, _, rfl, rfl, SqL.of upd_same, rfl, _, _, rfl, rfl, Or.inl ⟨by omega, by omega⟩, _, rfl, u, nums a ((b * 37199 + 1201) % 2147483629) c, 1, _, rfl, rfl, SqL.of upd_same, rfl, _, _, rfl, rfl, Or.inl ⟨_, rfl, _, _, rfl, rfl, (by show (0 : Int) < 2147483587; decide), ?_⟩⟩
      refine ⟨_, rfl, u, nums a ((b * 37199 + 1201) % 2147483629) c, 2, 2, rfl, rfl, upd_same, rfl, ?_⟩
      rw [upd_upd]
      obtain ⟨b', hb'⟩ : ∃ b', b' = (b * 37199 + 1201) % 2147483629 := ⟨_, rfl⟩
      obtain ⟨c', hc'⟩ : ∃ c', c' = (c * 29443 + b') % 2147483587 := ⟨_, rfl⟩
      have b4 : 0 ≤ b' ∧ b' < 2147483629 := ⟨hb' ▸ Int.emod_nonneg _ (by decide), hb' ▸ Int.emod_lt_of_pos _ (by decide)⟩
      have c4 : 0 ≤ c' ∧ c' < 2147483587 := ⟨hc' ▸ Int.emod_nonneg _ (by decide), hc' ▸ Int.emod_lt_of_pos _ (by decide)⟩
      generalize hH : upd H u _ = H2
      have hu2 : H2 u = some (.lst (nums a b' c')) := by
        rw [← hH, upd_same, hc', hb']
        rfl
      have kp2 : ∀ x o, H x = some o → x ≠ u → H2 x = some o := fun x o e z => by
        rw [← hH, upd_ne z]
        exact e
      refine ⟨_, rfl, u, nums a b' c', 2, _, rfl, rfl, SqL.of hu2, rfl, _, _, rfl, rfl, ⟨by decide, by decide⟩, Or.inl ⟨_, rfl, _, rfl, _, _, rfl, rfl, m0, ?_⟩⟩
      exact hq _ _ a b' c' (Int.emod_nonneg _ (by omega)) (Int.emod_lt_of_pos _ m0) ⟨B.a0, b4.1, by omega, c4.1, by omega⟩ kp2 hu2
end
end K7
namespace K7
open PySem L2 Ur
section
variable {P : Program} {w : World} {K :
      PySem.W.Frag} {mg : Str → Option Value} {base : Heap}
abbrev n_law_urn : List Str := ["_law_script", "_law_lap", "_law_seed", "_law_cell", "_law_own"]
abbrev p_law_urn : List Str := ["_law_script", "_law_lap"]
theorem sc_law_urn : FnScope n_law_urn p_law_urn (defScope sUrn) := ⟨rfl, rfl, rfl, by decide +kernel, rfl, by decide +kernel, by decide +kernel⟩
def spUrn (K : PySem.W.Frag) : Sp := fun vs H Q _ => ∃ (a : Addr) (ns : List Int) (lap : Int), vs = [.ref a, .int lap] ∧ SqL K H a (ns.map V.int) ∧ 0 ≤ lap ∧ lap ≤ 10 ∧
  ∀ (p : Addr) (x y z : Int) (H' : Hp), H p = none → Same H H' → Bd x y z → H' p = some (.lst (nums x y z)) → Q (.ref p) H'
theorem ok_urn {f : Addr} {fd : FuncData} (F : Fun K "_law_urn" "_law_urn" sUrn f fd) (T : Bl mg) : FnOk P w K mg base CX0 1 f fd p_law_urn (spUrn K) := by
  refine F.ok sc_law_urn (fun vs H Q E h => ?_) (fun cdv A outer s H vs Q E hr h => ?_)
  · obtain ⟨a, ns, lap, rfl, _⟩ := h
    rfl
  · obtain ⟨a, ns, lap, rfl, hS, l0, l1, k⟩ := h
    refine ⟨_, (pss_cons (ps_set (i := 2) sc_law_urn.nd rfl (Or.inl rfl) (pe_op op_add pe_int (pe_op op_mul pe_int (pv 1))))
      (pss_cons (ps_for PassesOwn.never rfl (pi_list (pe_slice sl_list (pv 0) po_none (po_some pe_int))) (pg_name (i := 3) sc_law_urn.nd rfl (Or.inl rfl)) (pss_one (ps_set (i := 2) sc_law_urn.nd rfl (Or.inl rfl) (pe_op op_mod (pe_callTy call_int1 (by rfl) T.int PyProof.Rows.boot_int (pa_cons (pe_op op_add (pe_op op_add (pe_op op_mul (pv 2) pe_int) (pe_op op_mod (pe_callTy call_int1 (by rfl) T.int PyProof.Rows.boot_int (pa_cons (pv 3) pa_nil)) pe_int)) pe_int) pa_nil)) pe_int))))
      (pss_cons (ps_set (i := 4) sc_law_urn.nd rfl (Or.inl rfl) (pe_ifExp (pt_cmpR op_lt (pv 1) (pe_callB call_len_seq (by rfl) T.len PySem.boot_len (pa_cons (pv 0) pa_nil)) (nomark _)) (pe_callB call_abs (by rfl) T.abs PyProof.Rows.boot_abs (pa_cons (pe_callTy call_int1 (by rfl) T.int PyProof.Rows.boot_int (pa_cons (pe_ix ix_list (pv 0) (pv 1) (fun _ _ => rfl)) pa_nil)) pa_nil)) pe_int))
      (pss_one (ps_ret (pe_lst (pa_cons (pe_ifExp (pt_cmpR op_ge (pv 4) (pe_op op_pow pe_int pe_int) (nomark _)) (pv 4) pe_int) (pa_cons (pe_op op_mod (pe_callTy call_int1 (by rfl) T.int PyProof.Rows.boot_int (pa_cons (pe_op op_add (pe_op op_add (pe_op op_mul (pv 2) pe_int) (pe_op op_mod (pe_callTy call_int1 (by rfl) T.int PyProof.Rows.boot_int (pa_cons (pv 4) pa_nil)) pe_int)) pe_int) pa_nil)) pe_int) (pa_cons (pe_op op_add (pv 2) pe_int) pa_nil))))))))), ?_⟩
    refine ⟨_, rfl, _, _, rfl, rfl, Or.inl ⟨by decide, by decide⟩, _, _, rfl, rfl, ?_⟩
    refine ⟨_, rfl, 63, rfl, a, ns.map V.int, rfl, hS, fun p hp => ⟨p, rfl, ⟨_, SqL.of upd_same⟩, ?_⟩⟩
    obtain ⟨ms, ec⟩ : ∃ ms : List Int, cutV (ns.map V.int) none (some 63) = ms.map V.int := ⟨(ns.drop _).take _, by unfold cutV; rw [List.map_take, List.map_drop]⟩
    rw [ec]
    refine for_list (K := K) (a := p) (xs := ms.map V.int) (fun i σ H' => ∃ (sd : Int) (v : Option V), σ = [some (.ref a), some (.int lap), some (.int sd), v, none] ∧ 0 ≤ sd ∧ sd < 2147483549 ∧ Same H H' ∧ SqL K H' p (ms.map V.int))
      ⟨60427 + 7001 * lap, none, rfl, by omega, by omega, same_new hp, SqL.of upd_same⟩ (fun i σ H' _ ⟨_, _, _, _, _, _, z⟩ => z) ?_ ?_
    · rintro i y σ H' hi ⟨sd, v, rfl, s0, s1, sm, sq⟩
      obtain ⟨z, _, rfl⟩ := map_at hi
      refine ⟨_, rfl, _, _, rfl, rfl, Or.inl ⟨by omega, by omega⟩, _, rfl, Or.inl ⟨_, rfl, _, _, rfl, rfl, (by show (0 : Int) < 2147483549; decide), _, _, rfl, rfl, _, _, rfl, rfl, Or.inl ⟨_, rfl, _, _, rfl, rfl, (by show (0 : Int) < 2147483549; decide), ?_⟩⟩⟩
      exact ⟨_, _, rfl, Int.emod_nonneg _ (by decide), Int.emod_lt_of_pos _ (by decide), sm, sq⟩
    · rintro σ H' ⟨sd, v, rfl, s0, s1, sm, sq⟩
      have hS' := sm.seq hS
      obtain ⟨j, rfl⟩ := Int.eq_ofNat_of_zero_le l0
      refine ⟨_, rfl, _, rfl, a, _, rfl, Or.inl hS', _, _, rfl, rfl, _, rfl, ?_⟩
      have own0 : ∀ z : Int, 0 ≤ (if z < 0 then -z else z) := fun z => by split <;> omega
      have md : ∀ y : Int, 0 ≤ y % 2147483563 ∧ y % 2147483563 < 2147483563 := fun y => ⟨Int.emod_nonneg _ (by decide), Int.emod_lt_of_pos _ (by decide)⟩
      refine ite2 (fun c
            => ?_) (fun c => ?_)
      · have hj : j < ns.length := by
          have := of_decide_eq_true c
          rw [List.length_map] at this
          omega
        have hat : (ns.map V.int)[j]? = some (V.int ns[j]) := by simp [hj]
        refine ⟨_, rfl, _, rfl, a, _, _, _, rfl, rfl, hS', atI_nat hat, Or.inl ⟨_, rfl, _, rfl, ?_⟩⟩
        refine ⟨_, rfl, _, _, rfl, rfl, ⟨by decide, by decide, by decide⟩, _, _, rfl, rfl, _, rfl, ?_⟩
        generalize ho : (if ns[j] < 0 then -ns[j] else ns[j]) = own
        have o0 : 0 ≤ own := ho ▸ own0 _
        refine ite2 (fun _
              => ?_) (fun _ => ?_)
        · refine ⟨_, rfl, _, rfl, _, _, rfl, rfl, Or.inr ⟨by decide, by decide⟩, _, rfl, Or.inl ⟨_, rfl, _, _, rfl, rfl, (by show (0 : Int) < 2147483563; decide), _, _, rfl, rfl, _, _, rfl, rfl, Or.inl ⟨_, rfl, _, _, rfl, rfl, (by show (0 : Int) < 2147483563; decide), _, rfl, _, _, rfl, rfl, (by show 3 ≤ sizeLine; decide), fun q hq => ?_⟩⟩⟩
          exact k q own _ _ _ (sm.free hq) (sm.trans (same_new hq)) ⟨o0, (md _).1, by have := (md (sd * 41203 + own % 2147483563 + 5)).2; omega, by omega, by omega⟩ upd_same
        · refine ⟨_, rfl, _, _, rfl, rfl, Or.inr ⟨by decide, by decide⟩, _, rfl, Or.inl ⟨_, rfl, _, _, rfl, rfl, (by show (0 : Int) < 2147483563; decide), _, _, rfl, rfl, _, _, rfl, rfl, Or.inl ⟨_, rfl, _, _, rfl, rfl, (by show (0 : Int) < 2147483563; decide), _, rfl, _, _, rfl, rfl, (by show 3 ≤ sizeLine; decide), fun q hq => ?_⟩⟩⟩
          exact k q 0 _ _ _ (sm.free hq) (sm.trans (same_new hq)) ⟨by decide, (md _).1, by have := (md (sd * 41203 + own % 2147483563 + 5)).2; omega, by omega, by omega⟩ upd_same
      · refine ⟨_, rfl, _, _, rfl, rfl, ⟨by decide, by decide, by decide⟩, _, _, rfl, rfl, _, rfl, ?_⟩
        refine ite2 (fun _
              => ?_) (fun _ => ?_)
        · refine ⟨_, rfl, _, rfl, _, _, rfl, rfl, Or.inr ⟨by decide, by decide⟩, _, rfl, Or.inl ⟨_, rfl, _, _, rfl, rfl, (by show (0 : Int) < 2147483563; decide), _, _, rfl, rfl, _, _, rfl, rfl, Or.inl ⟨_, rfl, _, _, rfl, rfl, (by show (0 : Int) < 2147483563; decide), _, rfl, _, _, rfl, rfl, (by show 3 ≤ sizeLine; decide), fun q hq => ?_⟩⟩⟩
          exact k q 0 _ _ _ (sm.free hq) (sm.trans (same_new hq)) ⟨by decide, (md _).1, by have := (md (sd * 41203 + 0 % 2147483563 + 5)).2; omega, by omega, by omega⟩ upd_same
        · refine ⟨_, rfl, _, _, rfl, rfl, Or.inr ⟨by decide, by decide⟩, _, rfl, Or.inl ⟨_, rfl, _, _, rfl, rfl, (by show (0 : Int) < 2147483563; decide), _, _, rfl, rfl, _, _, rfl, rfl, Or.inl ⟨_, rfl, _, _, rfl, rfl, (by show (0 : Int) < 2147483563; decide), _, rfl, _, _, rfl, rfl, (by show 3 ≤ sizeLine; decide), fun q hq => ?_⟩⟩⟩
          exact k q 0 _ _ _ (sm.free hq) (sm.trans (same_new hq)) ⟨by decide, (md _).1, by have := (md (sd * 41203 + 0 % 2147483563 + 5)).2; omega, by omega, by omega⟩ upd_same
end
end K7
namespace Ur
open PySem L2
/-! ### Euclid, by halves -/
theorem gcd_turn {x y B i : Nat} (hy : 0 < y) (hxy : y < x) (h : x * y * 2 ^ i ≤ B) : y * (x % y) * 2 ^ (i + 1) ≤ B := by
  have h1 : 2 * (x % y) ≤ x := by
    have a := Nat.mod_lt x hy
    have b := Nat.mod_add_div x y
    have c : 1 ≤ x / y := (Nat.one_le_div_iff hy).mpr (Nat.le_of_lt hxy)
    have d : y * 1 ≤ y * (x / y) := Nat.mul_le_mul_left _ c
    omega
  have h2 : y * (x % y) * 2 ^ (i + 1) = y * (2 * (x % y)) * 2 ^ i := by
    rw [Nat.pow_succ, Nat.mul_comm (2 ^ i) 2, ← Nat.mul_assoc, Nat.mul_assoc y (x % y) 2, Nat.mul_comm (x % y) 2]
  rw [h2]
  refine Nat.le_trans (Nat.mul_le_mul_right _ (Nat.mul_le_mul_left _ h1)) ?_
  rw [Nat.mul_comm y x]
  exact h
theorem gcd_ends {x y B i : Nat} (hxy : y < x) (h : x * y * 2 ^ i ≤ B) (hB : B < 2 ^ i) : y = 0 := by
  cases y with
  | zero => rfl
  | succ y =>
    have : 1 * 2 ^ i ≤ x * (y + 1) * 2 ^ i := Nat.mul_le_mul_right _ (Nat.mul_pos (by omega) (by omega))
    omega
end Ur
namespace K7
open PySem L2 Ur
abbrev sGcd : Stmt := top 42
abbrev sThin : Stmt := top 43
section
variable {P : Program} {w : World} {K :
      PySem.W.Frag} {mg : Str → Option Value} {base : Heap}
abbrev n_law_gcd : List Str := ["_law_one", "_law_two", "_law_step"]
abbrev p_law_gcd : List Str := ["_law_one", "_law_two"]
theorem sc_law_gcd : FnScope n_law_gcd p_law_gcd (defScope sGcd) := ⟨rfl, rfl, rfl, by decide +kernel, rfl, by decide +kernel, by decide +kernel⟩
def spGcd : Sp := fun vs H Q _ => ∃ a b : Nat, vs = [.int a, .int b] ∧ b < 2 ^ 9000 ∧ Q (.int ((Nat.gcd a b : Nat) : Int)) H
theorem ok_gcd {f : Addr} {fd : FuncData} (F : Fun K "_law_gcd" "_law_gcd" sGcd f fd) (T : Bl mg) : FnOk P w K mg base CX0 1 f fd p_law_gcd spGcd := by
  refine F.ok sc_law_gcd (fun vs H Q E h => ?_) (fun cdv A outer s H vs Q E hr h => ?_)
  · obtain ⟨a, b, rfl, _⟩ := h
    rfl
  · obtain ⟨a, b, rfl, hb, k⟩ := h
    refine ⟨_, (pss_cons (ps_for PassesOwn.never rfl (pi_range1 (by rfl) T.range (pa_cons pe_int pa_nil)) (pg_name (i := 2) sc_law_gcd.nd rfl (Or.inl rfl)) (pss_cons (ps_if (pt_cmpR op_eq (pv 1) pe_int (nomark _)) (pss_one ps_break) pss_nil)
      (pss_one (ps_par (i := 0) (j := 1) rfl sc_law_gcd.nd rfl rfl (by decide) rfl rfl (pa_cons (pv 1) (pa_cons (pe_op op_mod (pe_callTy call_int1 (by rfl) T.int PyProof.Rows.boot_int (pa_cons (pv 0) pa_nil)) (pv 1)) pa_nil)) (by rfl)))))
      (pss_one (ps_ret (pv 0)))), ?_⟩
    have hB : b * b < 2 ^ 19998 := by
      have h1 : b * b < 2 ^ 9000 * 2 ^ 9000 := Nat.mul_lt_mul'' hb hb
      rw [← Nat.pow_add] at h1
      exact Nat.lt_of_lt_of_le h1 (Nat.pow_le_pow_right (by decide) (by decide))
    refine ⟨20000, rfl, by decide, by decide, for_range (lo := 0) (n := 20000) (fun i σ H' => ∃ (x y : Nat) (v : Option V), σ = [some (.int x), some (.int y), v] ∧ H' = H ∧ Nat.gcd x y = Nat.gcd a b ∧
      (i = 0 → x = a ∧ y = b) ∧ (0 < i → y < x ∧ x * y * 2 ^ (i - 1) ≤ b * b)) ⟨a, b, none, rfl, rfl, rfl, fun _ => ⟨rfl, rfl⟩, fun z => absurd z (by decide)⟩ ?_ ?_⟩
    · rintro i σ H' hi ⟨x, y, v, rfl, rfl, hg, h0, h1⟩
      refine ⟨_, rfl,
            rfl, _, rfl, ?_⟩
      refine ite2 (fun c
            => ?_) (fun c => ?_)
      · have e : (y : Int) = 0 := V.int.inj (of_decide_eq_true c)
        have e' : y = 0 := by omega
        subst e'
        rw [Nat.gcd_zero_right] at hg
        refine ⟨_, rfl, ?_⟩
        rw [hg]
        exact k
      · have e : ¬ y = 0 := fun z => c (decide_eq_true (by rw [z]; rfl))
        have hy : 0 < y := Nat.pos_of_ne_zero e
        refine ⟨_, rfl, _, rfl, Or.inl ⟨_, rfl, _, rfl, _, _, rfl, rfl, (by show (0 : Int) < (y : Int); omega), _, _, rfl, ?_⟩⟩
        refine ⟨y, x % y, some (.int (0 + (i : Int))), ?_, rfl, ?_, fun z => absurd z (by omega), fun _ => ⟨Nat.mod_lt _ hy, ?_⟩⟩
        · rw [Int.natCast_emod]
          rfl
        · rw [← hg, Nat.gcd_comm x y]
          exact (Nat.gcd_rec y x).symm ▸ Nat.gcd_comm _ _
        · cases i with
          | zero =>
            obtain ⟨rfl, rfl⟩ := h0 rfl
            have := Nat.mod_lt x hy
            show y * (x % y) * 2 ^ 0 ≤ y * y
            rw [Nat.pow_zero, Nat.mul_one]
            exact Nat.mul_le_mul_left _ (Nat.le_of_lt this)
          | succ i =>
            obtain ⟨h2, h3⟩ := h1 (by omega)
            exact gcd_turn hy h2 h3
    · rintro σ H' ⟨x, y, v, rfl, rfl, hg, h0, h1⟩
      obtain ⟨h2, h3⟩ := h1 (by decide)
      have e' : y = 0 := gcd_ends h2 h3 (Nat.lt_of_lt_of_le hB (Nat.pow_le_pow_right (by decide) (by decide)))
      subst e'
      rw [Nat.gcd_zero_right] at hg
      refine ⟨_, rfl, ?_⟩
      rw [hg]
      exact k
/-! ### thin -/
def gAll (ns : List Int) : Nat := ns.foldl (fun g n => Nat.gcd g n.natAbs) 0
def thin (ns : List Int) : List Int := if gAll ns < 2 then ns else ns.map fun n => n / (gAll ns : Int)
abbrev n_law_thin : List Str := ["_law_row", "_law_common", "_law_number"]
abbrev p_law_thin : List Str := ["_law_row"]
theorem sc_law_thin : FnScope n_law_thin p_law_thin (defScope sThin) := ⟨rfl, rfl, rfl, by decide +kernel, rfl, by decide +kernel, by decide +kernel⟩
def spThin (K : PySem.W.Frag) : Sp := fun vs H Q _ => ∃ (t : Addr) (ns : List Int), vs = [.ref t] ∧ SqT K H t (ns.map V.int) ∧ ns.length ≤ 1000 ∧ (∀ n ∈ ns, n.natAbs < 2 ^ 9000) ∧
  ∀ (p : Addr) (H' : Hp), Same H H' → SqT K H' p ((thin ns).map V.int) → Q (.ref p) H'
theorem take_next {α : Type} {l : List α} {i : Nat} {x : α}
      (h : l[i]? = some x) : l.take (i + 1) = l.take i ++ [x] := by
  obtain ⟨hi, rfl⟩ := List.getElem?_eq_some_iff.mp h
  exact List.take_succ_eq_append_getElem hi
theorem gAll_next {ns : List Int} {i : Nat} {z : Int} (h : ns[i]? = some z) : gAll (ns.take (i + 1)) = Nat.gcd (gAll (ns.take i)) z.natAbs := by
  unfold gAll
  rw [take_next h, List.foldl_append]
  rfl
theorem gAll_big : ∀ (ns : List Int) (g : Nat), g < 2 ^ 9000 → (∀ n ∈ ns, n.natAbs < 2 ^ 9000) → ns.foldl (fun g n => Nat.gcd g n.natAbs) g < 2 ^ 9000
  | [], g, h, _ => h
  | n :: r, g, h, hs => by
    refine gAll_big r _ ?_ fun m hm => hs m (List.mem_cons_of_mem _ hm)
    have hn := hs n List.mem_cons_self
    show Nat.gcd g n.natAbs < 2 ^ 9000
    by_cases z : g = 0
    · rw [z, Nat.gcd_zero_left]; exact hn
    · exact Nat.lt_of_le_of_lt (Nat.gcd_le_left _ (Nat.pos_of_ne_zero z)) h
theorem abs_nat (z : Int) : (if z < 0 then -z else z) = ((z.natAbs : Nat) : Int) := by
  split <;> omega
theorem big0 : 0 < 2 ^ 9000 := Nat.pow_pos (by decide)
theorem ok_thin {f : Addr} {fd : FuncData} (F : Fun K "_law_thin" "_law_thin" sThin f fd) (T : Bl mg) (H_law_gcd : Has P w K mg base "_law_gcd" p_law_gcd 1 spGcd) : FnOk P w K mg base CX0 2 f fd p_law_thin (spThin K) := by
  refine F.ok sc_law_thin (fun vs H Q E h => ?_) (fun cdv A outer s H vs Q E hr h => ?_)
  · obtain ⟨t, ns, rfl, _⟩ := h
    rfl
  · obtain ⟨t, ns, rfl, hS, hl, hb, k⟩ := h
    refine ⟨_, (pss_cons (ps_set (i := 1) sc_law_thin.nd rfl (Or.inr rfl) pe_int)
      (pss_cons (ps_for PassesOwn.never rfl (pi_tup (pv 0)) (pg_name (i := 2) sc_law_thin.nd rfl (Or.inl rfl)) (pss_one (ps_set (i := 1) sc_law_thin.nd rfl (Or.inr rfl) (pe_has H_law_gcd (hr.mono (by decide)) (by rfl) (pa_cons (pv 1) (pa_cons (pe_callB call_abs (by rfl) T.abs PyProof.Rows.boot_abs (pa_cons (pv 2) pa_nil)) pa_nil))))))
      (pss_one (ps_ret (pe_ifExp (pt_cmpR op_lt (pv 1) pe_int (nomark _)) (pe_callTy call_tuple_of (by rfl) T.tuple PyProof.Rows.boot_tuple (pa_cons (pv 0) pa_nil)) (pe_callTy call_tuple_of (by rfl) T.tuple PyProof.Rows.boot_tuple (pa_cons (pe_lc (own := [("_law_number", 2)]) (g := gName 2) (tt := tYes) rfl sc_law_thin.nd (pi_tup (pv 0)) (blkOk_by (N := n_law_thin) (sc := defScope sThin) (by decide +kernel)) (fun _ _ _ _ _ => pg_name (i := 2) sc_law_thin.nd rfl (Or.inl rfl)) (fun _ _ _ _ _ => pts_nil) (fun _ _ _ _ _ => (pe_op op_fdivW (pv 2) (pv 1)))) pa_nil))))))), ?_⟩
    refine ⟨_, rfl, t, rfl, ⟨_, hS⟩, for_tup (K := K) (a := t) (xs := ns.map V.int) (fun i σ H' => ∃ v : Option V, σ = [some (.ref t), some (.int (gAll (ns.take i) : Nat)), v] ∧ H' = H) ⟨none, rfl, rfl⟩ (fun i σ H' _ ⟨_, _, e⟩ => e ▸ hS) ?_ ?_⟩
    · rintro i y σ H' hi ⟨v, rfl, rfl⟩
      obtain ⟨z, hz, rfl⟩ := map_at hi
      have hzb := hb z (List.mem_of_getElem? hz)
      refine ⟨_, rfl, _, rfl, _, rfl, ?_⟩
      refine ⟨gAll (ns.take i), z.natAbs, by rw [← abs_nat]; rfl, hzb, ?_⟩
      refine ⟨some (V.int z), ?_, rfl⟩
      rw [gAll_next hz]
      rfl
    · rintro σ H' ⟨v, rfl, rfl⟩
      have eg : gAll (ns.take (ns.map V.int).length) = gAll ns := by rw [List.length_map, List.take_length]
      rw [eg]
      refine ⟨_, rfl, _, _,
            rfl, rfl, _, rfl, ?_⟩
      refine ite2 (fun c
            => ?_) (fun c => ?_)
      · have c' := of_decide_eq_true c
        refine ⟨_, rfl, t, _, rfl, Or.inr ⟨hS, ?_⟩⟩
        refine k t H' (Same.refl _) ?_
        unfold thin
        rw [if_pos (by omega)]
        exact hS
      · have c' : ¬ gAll ns < 2 := fun z => c (decide_eq_true (by omega))
        have gb : gAll ns < 2 ^ 9000 := gAll_big ns 0 big0 hb
        unfold tCB tCons tNil
        dsimp only
        refine lcT (K := K) (a := t) (xs := ns.map V.int) (fun i y => ∃ z, ns[i]? = some z ∧ y = .int (z / (gAll ns : Int))) (fun R r => ⟨_, rfl, r⟩) hS (by rw [List.length_map]; omega) (fun x => rfl) (fun i x H3 hi _ Q' q' => ?_) (fun D ys H2 hD sm hy e1 e2 => ?_)
        · obtain ⟨z, hz, rfl⟩ := map_at hi
          exact ⟨_, rfl, _, rfl, _, _, rfl, rfl, wide_div (b := 9000) (by omega) (by simpa using gb) (by decide) (by decide), q' _ _ ⟨z, hz, rfl⟩ (Same.refl _)⟩
        · refine ⟨D, ys, rfl, Or.inl ⟨SqL.of hy, fun l hl => ?_⟩⟩
          refine k l _ (sm.trans (same_new hl)) ?_
          have ey : ys = (thin ns).map V.int := by
            unfold thin
            rw [if_neg c']
            apply List.ext_getElem?
            intro i
            cases h : ys[i]? with
            | none =>
              have := List.getElem?_eq_none_iff.mp h
              rw [List.getElem?_eq_none (by simp at e1 ⊢; omega)]
            | some y =>
              obtain ⟨z, hz, rfl⟩ := e2 i y h
              simp [hz]
          rw [← ey]
          exact SqT.of upd_same
end
end K7
namespace K7
open PySem L2 Ur
abbrev sCom : Stmt := top 7
abbrev sWhole : Stmt := top 21
abbrev sWholes : Stmt := top 22
abbrev sFracF : Stmt := top 23
abbrev sPointF : Stmt := top 24
abbrev sLWhole : Stmt := top 44
def isFr : List V → Bool
  | [.int n, .int m] => decide (0 < m) && decide (Nat.gcd n.natAbs m.natAbs = 1)
  | _ => false
def isPt : List V → Bool
  | [.int x, .int y, .int w] => decide (0 < w) && decide (Nat.gcd (Nat.gcd x.natAbs y.natAbs) w.natAbs = 1)
  | _ => false
def isDr : List V → Bool
  | [.int n, .int m] => decide (Nat.gcd n.natAbs m.natAbs = 1)
  | _ => false
theorem ns_len {n : Nat} {ns : List Int} (h : decide (V.int ((ns.map V.int).length : Int) = V.int (n : Int)) = true) : ns.length = n := by
  have e := V.int.inj (of_decide_eq_true h)
  rw [List.length_map] at e
  omega
theorem not_len {n : Nat} {ns : List Int} (h : ¬ decide (V.int ((ns.map V.int).length : Int) = V.int (n : Int)) = true) : ns.length ≠ n := fun e => h (decide_eq_true (by rw [List.length_map, e]))
theorem fr_no {ns : List Int} (h : ns.length ≠ 2) : isFr (ns.map V.int) = false := by
  match ns, h with
  | [], _ => rfl
  | [_], _ => rfl
  | _ :: _ :: _ :: _, _ => rfl
theorem dr_no {ns : List Int} (h : ns.length ≠ 2) : isDr (ns.map V.int) = false := by
  match ns, h with
  | [], _ => rfl
  | [_], _ => rfl
  | _ :: _ :: _ :: _, _ => rfl
theorem pt_no {ns : List Int} (h : ns.length ≠ 3) : isPt (ns.map V.int) = false := by
  match ns, h with
  | [], _ => rfl
  | [_], _ => rfl
  | [_, _], _ => rfl
  | _ :: _ :: _ :: _ :: _, _ => rfl
theorem fr_wh : ∀ {xs : List V}, isFr xs = true → xs.all wh = true
  | [.int n, .int m], _ => rfl
theorem dr_wh : ∀ {xs : List V}, isDr xs = true → xs.all wh = true
  | [.int n, .int m], _ => rfl
theorem pt_wh : ∀ {xs : List V}, isPt xs = true → xs.all wh = true
  | [.int x, .int y, .int w], _ => rfl
theorem of_wh {g : List V → Bool} (hg : ∀ {xs : List V}, g xs = true → xs.all wh = true) {xs : List V} (h : xs.all wh = false) : g xs = false := by
  cases e : g xs with
  | false => rfl
  | true => rw [hg e] at h; cases h
section
variable {P : Program} {w : World} {K :
      PySem.W.Frag} {mg : Str → Option Value} {base : Heap}
/-! ### gcds -/
abbrev n_common_divisor : List Str := ["numbers", "found", "number"]
abbrev p_common_divisor : List Str := ["numbers"]
theorem sc_common_divisor : FnScope n_common_divisor p_common_divisor (defScope sCom) := ⟨rfl, rfl, rfl, by decide +kernel, rfl, by decide +kernel, by decide +kernel⟩
def spCom (K : PySem.W.Frag) : Sp := fun vs H Q _ => ∃ (t : Addr) (ns : List Int), vs = [.ref t] ∧ SqT K H t (ns.map V.int) ∧ Q (.int (gAll ns : Nat)) H
theorem ok_com {f : Addr} {fd : FuncData} (F : Fun K "common_divisor" "common_divisor" sCom f fd) (mG : mg "gcd" = some (.builtin "math.gcd")) : FnOk P w K mg base CX0 1 f fd p_common_divisor (spCom K) := by
  refine F.ok sc_common_divisor (fun vs H Q E h => ?_) (fun cdv A outer s H vs Q E hr h => ?_)
  · obtain ⟨t, ns, rfl, _⟩ := h
    rfl
  · obtain ⟨t, ns, rfl, hS, k⟩ := h
    refine ⟨_, (pss_cons (ps_set (i := 1) sc_common_divisor.nd rfl (Or.inl rfl) pe_int)
      (pss_cons (ps_for PassesOwn.never rfl (pi_tup (pv 0)) (pg_name (i := 2) sc_common_divisor.nd rfl (Or.inl rfl)) (pss_one (ps_set (i := 1) sc_common_divisor.nd rfl (Or.inl rfl) (pe_callBfun cr_gcd (by rfl) mG (pa_cons (pv 1) (pa_cons (pv 2) pa_nil))))))
      (pss_one (ps_ret (pv 1))))), ?_⟩
    refine ⟨_, rfl, t, rfl, ⟨_, hS⟩, for_tup (K := K) (a := t) (xs := ns.map V.int) (fun i σ H' => ∃ v : Option V, σ = [some (.ref t), some (.int (gAll (ns.take i) : Nat)), v] ∧ H' = H) ⟨none, rfl, rfl⟩ (fun i σ H' _ ⟨_, _, e⟩ => e ▸ hS) ?_ ?_⟩
    · rintro i y σ H' hi ⟨v, rfl, rfl⟩
      obtain ⟨z, hz, rfl⟩ := map_at hi
      refine ⟨_, rfl, _, rfl, _, _, rfl, some (V.int z), ?_, rfl⟩
      rw [gAll_next hz, Int.natAbs_natCast]
      rfl
    · rintro σ H' ⟨v, rfl, rfl⟩
      rw [List.length_map,
            List.take_length]
      exact ⟨_, rfl, k⟩
/-! ### whole numbers -/
def spWhole (K : PySem.W.Frag) : Sp := fun vs H Q _ => ∃ (x : V) (k : Kd), vs = [x] ∧ OfKd K H x k ∧ Q (.bl (wh x)) H
theorem whole_read {K : PySem.W.Frag} {x : V} {k : Kd} {H : Hp} {Q : VK} (hx : OfKd K H x k) (q : Q (.bl (wh x)) H) :
    tRet (tAndV (tCB (rIsi K) (tCons (tVar 0) (tCons (tC (.ty "int")) tNil))) (tNotV (tCB (rIsi K) (tCons (tVar 0) (tCons (tC (.ty "bool")) tNil))))) { nx := fun _ H' => Q .non H', rt := Q } [some x] H := by
  refine ⟨x, rfl, x, _, _, _, _, rfl, .ty "int", hx, kit_ty (kd_int k), _, rfl, ?_⟩
  have ew := ofKd_wh hx
  refine ite2 (fun c
        => ?_) (fun c => ?_)
  · refine ⟨x, rfl, x, _, _, _, _, rfl, .ty "bool", hx, kit_ty (kd_bool k), _, rfl, ?_⟩
    have : (!(k == Kd.bool)) = wh x := by
      rw [← ew]
      cases k <;> first | rfl | (exact absurd c (by decide))
    rw [this]
    exact q
  · have : false = wh x := by
      rw [← ew]
      cases k <;> first | rfl | (exact absurd rfl c)
    rw [this]
    exact q
abbrev n_is_whole : List Str := ["value"]
theorem sc_is_whole : FnScope n_is_whole n_is_whole (defScope sWhole) := ⟨rfl, rfl, rfl, by decide +kernel, rfl, by decide +kernel, by decide +kernel⟩
theorem ok_whole {f : Addr} {fd : FuncData} (F : Fun K "is_whole" "is_whole" sWhole f fd) (T : Bl mg) : FnOk P w K mg base CX0 1 f fd n_is_whole (spWhole K) := by
  refine F.ok sc_is_whole (fun vs H Q E h => ?_) (fun cdv A outer s H vs Q E hr h => ?_)
  · obtain ⟨x, k, rfl, _⟩ := h
    rfl
  · obtain ⟨x, k, rfl, hx, q⟩ := h
    exact ⟨_, (pss_one (ps_ret (pe_and (pe_callB call_isi (by rfl) T.isinstance PyProof.Rows.boot_isinstance (pa_cons (pv 0) (pa_cons (pe_bltn (v := .ty "int") (by rfl) T.int PyProof.Rows.boot_int rfl) pa_nil))) (pe_one (pe_not (pe_callB call_isi (by rfl) T.isinstance PyProof.Rows.boot_isinstance (pa_cons (pv 0) (pa_cons (pe_bltn (v := .ty "bool") (by rfl) T.bool PyProof.Rows.boot_bool rfl) pa_nil)))))))), whole_read hx q⟩
abbrev n_law_is_whole : List Str := ["_law_number"]
theorem sc_law_is_whole : FnScope n_law_is_whole n_law_is_whole (defScope sLWhole) := ⟨rfl, rfl, rfl, by decide +kernel, rfl, by decide +kernel, by decide +kernel⟩
theorem ok_lwhole {f : Addr} {fd : FuncData} (F : Fun K "_law_is_whole" "_law_is_whole" sLWhole f fd) (T : Bl mg) : FnOk P w K mg base CX0 1 f fd n_law_is_whole (spWhole K) := by
  refine F.ok sc_law_is_whole (fun vs H Q E h => ?_) (fun cdv A outer s H vs Q E hr h => ?_)
  · obtain ⟨x, k, rfl, _⟩ := h
    rfl
  · obtain ⟨x, k, rfl, hx, q⟩ := h
    exact ⟨_, (pss_one (ps_ret (pe_and (pe_callB call_isi (by rfl) T.isinstance PyProof.Rows.boot_isinstance (pa_cons (pv 0) (pa_cons (pe_bltn (v := .ty "int") (by rfl) T.int PyProof.Rows.boot_int rfl) pa_nil))) (pe_one (pe_not (pe_callB call_isi (by rfl) T.isinstance PyProof.Rows.boot_isinstance (pa_cons (pv 0) (pa_cons (pe_bltn (v := .ty "bool") (by rfl) T.bool PyProof.Rows.boot_bool rfl) pa_nil)))))))), whole_read hx q⟩
end
end K7
namespace K7
open PySem L2 Ur
section
variable {P : Program} {w : World} {K :
      PySem.W.Frag} {mg : Str → Option Value} {base : Heap}
abbrev n_wholes_fit : List Str := ["value", "number"]
abbrev p_wholes_fit : List Str := ["value"]
theorem sc_wholes_fit : FnScope n_wholes_fit p_wholes_fit (defScope sWholes) := ⟨rfl, rfl, rfl, by decide +kernel, rfl, by decide +kernel, by decide +kernel⟩
/-- told of a value of any kind -/
def spTold (K : PySem.W.Frag) (g : List V → Bool) : Sp := fun vs H Q _ => ∃ (x : V) (k : Kd) (xs : List V), vs = [x] ∧ Arg K H x k xs ∧ ∀ H' : Hp, Same H H' → Q (.bl (k == .tup && g xs)) H'
theorem kd_ne {k : Kd} {b : Bool} (c : ¬ (k == Kd.tup) = true) : (k == Kd.tup && b) = false := by
  cases h : (k == Kd.tup) with
  | true => exact absurd h c
  | false => rfl
theorem ok_wholes {f : Addr} {fd : FuncData} (F : Fun K "wholes_fit" "wholes_fit" sWholes f fd) (T : Bl mg) (H_is_whole : Has P w K mg base "is_whole" n_is_whole 1 (spWhole K)) : FnOk P w K mg base CX0 2 f fd p_wholes_fit (spTold K fun xs => xs.all wh) := by
  refine F.ok sc_wholes_fit (fun vs H Q E h => ?_) (fun cdv A outer s H vs Q E hr h => ?_)
  · obtain ⟨x, k, xs, rfl, _⟩ := h
    rfl
  · obtain ⟨x, k, xs, rfl, A1, q⟩ := h
    refine ⟨_, (pss_one (ps_ret (pe_and (pe_callB call_isi (by rfl) T.isinstance PyProof.Rows.boot_isinstance (pa_cons (pv 0) (pa_cons (pe_bltn (v := .ty "tuple") (by rfl) T.tuple PyProof.Rows.boot_tuple rfl) pa_nil))) (pe_one (pe_callB (cr_all rfl) (by rfl) T.all PyProof.Rows.boot_all (pa_cons (pe_lc (own := [("number", 1)]) (g := gName 1) (tt := tYes) rfl sc_wholes_fit.nd (pi_tup (pv 0)) (blkOk_by (N := n_wholes_fit) (sc := defScope sWholes) (by decide +kernel)) (fun _ _ _ _ _ => pg_name (i := 1) sc_wholes_fit.nd rfl (Or.inl rfl)) (fun _ _ _ _ _ => pts_nil) (fun _ _ _ _ _ => (pe_has H_is_whole (hr.mono (by decide)) (by rfl) (pa_cons (pv 1) pa_nil)))) pa_nil)))))), ?_⟩
    refine ⟨x, rfl, x, _, _, _, _, rfl, .ty "tuple", A1.ty, kit_ty (kd_tup k), _, rfl, ?_⟩
    refine ite2 (fun c
          => ?_) (fun c => ?_)
    · obtain ⟨a, rfl, hS, hl, hk, hb⟩ := A1.its (by simpa using c)
      unfold tCB tCons tNil
      dsimp only
      refine lcT (K := K) (a := a) (xs := xs) (fun i y => ∃ z, xs[i]? = some z ∧ y = .bl (wh z)) (fun R r => ⟨_, rfl, r⟩) hS (by omega) (fun x => rfl) (fun i z H3 hi sm Q' q' => ?_) (fun D ys H2 hD sm hy e1 e2 => ?_)
      · obtain ⟨l, hl⟩ := (hk z (List.mem_of_getElem? hi)).kd
        exact ⟨z, rfl, z, l, rfl, ofKd_same sm hl, q' _ _ ⟨z, hi, rfl⟩ (Same.refl _)⟩
      · have ey : ys = (xs.map wh).map V.bl := by
          apply List.ext_getElem?
          intro i
          cases h : ys[i]? with
          | none =>
            have := List.getElem?_eq_none_iff.mp h
            rw [List.getElem?_eq_none (by simp at e1 ⊢; omega)]
          | some y =>
            obtain ⟨z, hz, rfl⟩ := e2 i y h
            simp [hz]
        rw [ey] at hy
        refine ⟨D, xs.map wh, rfl, SqL.of hy, ?_⟩
        have e3 : (xs.map wh).all id = (k == Kd.tup && xs.all wh) := by
          rw [c, List.all_map]
          rfl
        rw [e3]
        exact q H2 sm
    · have := q H (Same.refl H)
      rw [kd_ne c] at this
      exact this
abbrev n_value : List Str := ["value"]
theorem sc_frac : FnScope n_value n_value (defScope sFracF) := ⟨rfl, rfl, rfl, by decide +kernel, rfl, by decide +kernel, by decide +kernel⟩
theorem sc_point : FnScope n_value n_value (defScope sPointF) := ⟨rfl, rfl, rfl, by decide +kernel, rfl, by decide +kernel, by decide +kernel⟩
theorem ok_fracF {f : Addr} {fd : FuncData} (F : Fun K "fraction_fits" "fraction_fits" sFracF f fd) (T : Bl mg) (mG : mg "gcd" = some (.builtin "math.gcd")) (H_wholes_fit : Has P w K mg base "wholes_fit" p_wholes_fit 2 (spTold K fun xs => xs.all wh)) : FnOk P w K mg base CX0 3 f fd n_value (spTold K isFr) := by
  refine F.ok sc_frac (fun vs H Q E h => ?_) (fun cdv A outer s H vs Q E hr h => ?_)
  · obtain ⟨x, k, xs, rfl, _⟩ := h
    rfl
  · obtain ⟨x, k, xs, rfl, A1, q⟩ := h
    refine ⟨_, (pss_one (ps_ret (pe_and (pe_has H_wholes_fit (hr.mono (by decide)) (by rfl) (pa_cons (pv 0) pa_nil)) (pe_and (pe_cmpR op_eq (pe_callB call_len_seq (by rfl) T.len PySem.boot_len (pa_cons (pv 0) pa_nil)) pe_int (nomark _)) (pe_and (pe_cmpR op_gt (pe_ix ix_tup (pv 0) pe_int (fun _ _ => rfl)) pe_int (nomark _)) (pe_one (pe_cmpR op_eq (pe_callBfun cr_gcd (by rfl) mG (pa_cons (pe_ix ix_tup (pv 0) pe_int (fun _ _ => rfl)) (pa_cons (pe_ix ix_tup (pv 0) pe_int (fun _ _ => rfl)) pa_nil))) pe_int (nomark _)))))))), ?_⟩
    refine ⟨x, rfl, x, k, xs, rfl, A1, fun H1 s1 => ⟨_, rfl, ?_⟩⟩
    have no : isFr xs = false → Q (.bl false) H1 := fun e => by
      have := q H1 s1
      rw [e, Bool.and_false] at this
      exact this
    refine ite2 (fun c
          => ?_) (fun c => ?_)
    · rw [Bool.and_eq_true] at c
      obtain ⟨a, rfl, hS, _, _, _⟩ := (A1.same s1).its (by simpa using c.1)
      obtain ⟨ns, rfl⟩ := all_wh c.2
      refine ⟨_, rfl, a, _, rfl, Or.inr hS, rfl, _, rfl, ?_⟩
      refine ite2 (fun c2 => ?_) (fun c2 => no (fr_no (not_len (n := 2) c2)))
      match ns, ns_len (n := 2) c2, q, no, hS with
      | [n, m], _, q, no, hS =>
        refine ⟨_, rfl, a, _, 1, _, rfl, rfl, hS, rfl, _, _, rfl, rfl, _, rfl, ?_⟩
        refine ite2 (fun c3 => ?_) (fun c3 => ?_)
        · refine ⟨_, rfl, a, _, 0, _, rfl, rfl, hS, rfl, _, rfl, a, _, 1, _, rfl, rfl, hS, rfl, _, _, rfl, rfl, ?_⟩
          have := q H1 s1
          have e : (k == Kd.tup && isFr ([n, m].map V.int)) = decide (V.int ((Nat.gcd n.natAbs m.natAbs : Nat) : Int) = V.int 1) := by
            rw [c.1]
            show (decide (0 < m) && decide (Nat.gcd n.natAbs m.natAbs = 1)) = _
            rw [c3, Bool.true_and]
            refine decide_eq_decide.mpr ⟨fun e => by rw [e]; rfl, fun e => ?_⟩
            have := V.int.inj e
            omega
          rw [e] at this
          exact this
        · refine no ?_
          show (decide (0 < m) && _) = false
          rw [Bool.eq_false_iff.mpr c3]
          rfl
    · have := q H1 s1
      have e : (k == Kd.tup && isFr xs) = false := by
        cases h : (k == Kd.tup) with
        | false => rfl
        | true =>
          rw [h, Bool.true_and] at c
          rw [of_wh fr_wh (by simpa using c)]
          rfl
      rw [e] at this
      exact this
/-- where the first test says no -/
theorem no_of {k : Kd} {xs : List V} {g : List V → Bool} (hg : ∀ {xs : List V}, g xs = true → xs.all wh = true) (c : ¬ (k == Kd.tup && (fun xs => xs.all wh) xs) = true) : (k == .tup && g xs) = false := by
  cases h : (k == Kd.tup) with
  | false => rfl
  | true =>
    rw [h, Bool.true_and] at c
    rw [of_wh hg (by simpa using c)]
    rfl
theorem ok_pointF {f : Addr} {fd : FuncData} (F : Fun K "point_fits" "point_fits" sPointF f fd) (T : Bl mg) (H_common_divisor : Has P w K mg base "common_divisor" p_common_divisor 1 (spCom K)) (H_wholes_fit : Has P w K mg base "wholes_fit" p_wholes_fit 2 (spTold K fun xs => xs.all wh)) : FnOk P w K mg base CX0 3 f fd n_value (spTold K isPt) := by
  refine F.ok sc_point (fun vs H Q E h => ?_) (fun cdv A outer s H vs Q E hr h => ?_)
  · obtain ⟨x, k, xs, rfl, _⟩ := h
    rfl
  · obtain ⟨x, k, xs, rfl, A1, q⟩ := h
    refine ⟨_, (pss_one (ps_ret (pe_and (pe_has H_wholes_fit (hr.mono (by decide)) (by rfl) (pa_cons (pv 0) pa_nil)) (pe_and (pe_cmpR op_eq (pe_callB call_len_seq (by rfl) T.len PySem.boot_len (pa_cons (pv 0) pa_nil)) pe_int (nomark _)) (pe_and (pe_cmpR op_gt (pe_ix ix_tup (pv 0) pe_int (fun _ _ => rfl)) pe_int (nomark _)) (pe_one (pe_cmpR op_eq (pe_has H_common_divisor (hr.mono (by decide)) (by rfl) (pa_cons (pv 0) pa_nil)) pe_int (nomark _)))))))), ?_⟩
    refine ⟨x, rfl, x, k, xs, rfl, A1, fun H1 s1 => ⟨_, rfl, ?_⟩⟩
    have no : (k == .tup && isPt xs) = false → Q (.bl false) H1 := fun e => by
      have := q H1 s1
      rw [e] at this
      exact this
    refine ite2 (fun c => ?_) (fun c => no (no_of pt_wh c))
    rw [Bool.and_eq_true] at c
    obtain ⟨a, rfl, hS, _, _, _⟩ := (A1.same s1).its (by simpa using c.1)
    obtain ⟨ns, rfl⟩ := all_wh c.2
    refine ⟨_, rfl, a, _, rfl, Or.inr hS, rfl, _, rfl, ?_⟩
    refine ite2 (fun c2 => ?_) (fun c2 => no (by rw [pt_no (not_len (n := 3) c2), Bool.and_false]))
    match ns, ns_len (n := 3) c2, q, no, hS with
    | [n, m, l], _, q, no, hS =>
      refine ⟨_, rfl, a, _, 2, _, rfl, rfl, hS, rfl, _, _, rfl, rfl, _, rfl, ?_⟩
      refine ite2 (fun c3 => ?_) (fun c3 => ?_)
      · refine ⟨_, rfl, a, [n, m, l], rfl, hS, rfl, ?_⟩
        have := q H1 s1
        have e : (k == Kd.tup && isPt ([n, m, l].map V.int)) = decide (V.int (gAll [n, m, l] : Nat) = V.int 1) := by
          rw [c.1]
          show (decide (0 < l) && decide (Nat.gcd (Nat.gcd n.natAbs m.natAbs) l.natAbs = 1)) = _
          rw [c3, Bool.true_and]
          show _ = decide (V.int ((Nat.gcd (Nat.gcd (Nat.gcd 0 n.natAbs) m.natAbs) l.natAbs : Nat) : Int) = V.int 1)
          rw [Nat.gcd_zero_left]
          refine decide_eq_decide.mpr ⟨fun e => by rw [e]; rfl, fun e => ?_⟩
          have := V.int.inj e
          omega
        rw [e] at this
        exact this
      · refine no ?_
        rw [c.1]
        show (decide (0 < l) && _) = false
        rw [Bool.eq_false_iff.mpr c3]
        rfl
/-! ### the module's own -/
theorem pass_read {x : V} {k : Kd} {xs : List V} {g : List V → Bool} {H : Hp} {Q : VK} (A1 : Arg K H x k xs) (q : ∀ H' : Hp, Same H H' → Q (.bl (k == .tup && g xs)) H') :
    tRet (tCall (spTold K g) [] E0 (tCons (tVar 0) tNil)) { nx := fun _ H' => Q .non H', rt := Q } [some x] H := ⟨x, rfl, x, k, xs, rfl, A1, q⟩
end
end K7
namespace K7
open PySem L2 Ur
abbrev sAre : Stmt := top 45
abbrev sLFrac : Stmt := top 46
abbrev sLSpot : Stmt := top 47
/-! ### plain -/
theorem thin_one {ns : List Int} (h : gAll ns = 1) : thin ns = ns := by
  unfold thin
  rw [if_pos (by omega)]
theorem div_ne {g : Nat} {z : Int} (h2 : 2 ≤ g) (hd : g ∣ z.natAbs) (hz : z ≠ 0) : z / (g : Int) ≠ z := by
  intro e
  obtain ⟨q, hq⟩ := hd
  have hdv : (g : Int) ∣ z := Int.ofNat_dvd_left.mpr ⟨q, hq⟩
  have h3 := Int.ediv_mul_cancel hdv
  rw [e] at h3
  have h4 : z * (g : Int) = z * 1 := by rw [h3, Int.mul_one]
  have h5 := Int.eq_of_mul_eq_mul_left hz h4
  omega
theorem gAll_two (a b : Int) : gAll [a, b] = Nat.gcd a.natAbs b.natAbs := by
  show Nat.gcd (Nat.gcd 0 a.natAbs) b.natAbs = _
  rw [Nat.gcd_zero_left]
theorem gAll_three (a b c : Int) : gAll [a, b, c] = Nat.gcd (Nat.gcd a.natAbs b.natAbs) c.natAbs := by
  show Nat.gcd (Nat.gcd (Nat.gcd 0 a.natAbs) b.natAbs) c.natAbs = _
  rw [Nat.gcd_zero_left]
theorem spot_is {x y z : Int} (hz : 0 < z) : (thin [x, y, z] = [x, y, z]) ↔ Nat.gcd (Nat.gcd x.natAbs y.natAbs) z.natAbs = 1 := by
  have g0 : 0 < gAll [x, y, z] := by
    rw [gAll_three]
    exact Nat.gcd_pos_of_pos_right _ (by omega)
  constructor
  · intro e
    rw [← gAll_three]
    refine Classical.byContradiction fun h1 => ?_
    unfold thin at e
    rw [if_neg (by omega)] at e
    have e3 : z / ((gAll [x, y, z] : Nat) : Int) = z := by
      have := congrArg (fun l => l[2]?) e
      exact Option.some.inj this
    refine div_ne (by omega) ?_ (by omega) e3
    rw [gAll_three]
    exact Nat.gcd_dvd_right _ _
  · intro h
    exact thin_one (by rw [gAll_three]; exact h)
theorem aim_is {x y : Int} (h0 : ¬ (x = 0 ∧ y = 0)) : (thin [x, y] = [x, y]) ↔ Nat.gcd x.natAbs y.natAbs = 1 := by
  have g0 : 0 < gAll [x, y] := by
    rw [gAll_two]
    rcases Nat.eq_zero_or_pos (Nat.gcd x.natAbs y.natAbs) with h | h
    · rw [Nat.gcd_eq_zero_iff] at h
      exact absurd ⟨by omega, by omega⟩ h0
    · exact h
  constructor
  · intro e
    rw [← gAll_two]
    refine Classical.byContradiction fun h1 => ?_
    unfold thin at e
    rw [if_neg (by omega)] at e
    have e1 : x / ((gAll [x, y] : Nat) : Int) = x := Option.some.inj (congrArg (fun l => l[0]?) e)
    have e2 : y / ((gAll [x, y] : Nat) : Int) = y := Option.some.inj (congrArg (fun l => l[1]?) e)
    by_cases hx : x = 0
    · refine div_ne (by omega) ?_ (fun hy => h0 ⟨hx, hy⟩) e2
      rw [gAll_two]
      exact Nat.gcd_dvd_right _ _
    · refine div_ne (by omega) ?_ hx e1
      rw [gAll_two]
      exact Nat.gcd_dvd_left _ _
  · intro h
    exact thin_one (by rw [gAll_two]; exact h)
section
variable {P : Program} {w : World} {K :
      PySem.W.Frag} {mg : Str → Option Value} {base : Heap}
abbrev n_law_are_whole : List Str := ["_law_row", "_law_many", "_law_number"]
abbrev p_law_are_whole : List Str := ["_law_row", "_law_many"]
theorem sc_law_are_whole : FnScope n_law_are_whole p_law_are_whole (defScope sAre) := ⟨rfl, rfl, rfl, by decide +kernel, rfl, by decide +kernel, by decide +kernel⟩
def areB (k : Kd) (xs : List V) (m : Nat) : Bool := k == .tup && (decide (xs.length = m) && xs.all wh)
def spAre (K : PySem.W.Frag) : Sp := fun vs H Q _ => ∃ (x : V) (k : Kd) (xs : List V) (m : Nat), vs = [x, .int (m : Int)] ∧ Arg K H x k xs ∧ ∀ H' : Hp, Same H H' → Q (.bl (areB k xs m)) H'
theorem ok_are {f : Addr} {fd : FuncData} (F : Fun K "_law_are_whole" "_law_are_whole" sAre f fd) (T : Bl mg) (H_law_is_whole : Has P w K mg base "_law_is_whole" n_law_is_whole 1 (spWhole K)) : FnOk P w K mg base CX0 2 f fd p_law_are_whole (spAre K) := by
  refine F.ok sc_law_are_whole (fun vs H Q E h => ?_) (fun cdv A outer s H vs Q E hr h => ?_)
  · obtain ⟨x, k, xs, m, rfl, _⟩ := h
    rfl
  · obtain ⟨x, k, xs, m, rfl, A1, q⟩ := h
    have hu : (A.deeper (PyProof.Rows.envOfC "_law_are_whole" (defScope sAre) s.heap.objs.size f cdv)).units + 64 < cLine := hr.units
    refine ⟨_, (pss_one (ps_ret (pe_and (pe_callB call_isi (by rfl) T.isinstance PyProof.Rows.boot_isinstance (pa_cons (pv 0) (pa_cons (pe_bltn (v := .ty "tuple") (by rfl) T.tuple PyProof.Rows.boot_tuple rfl) pa_nil))) (pe_and (pe_cmpR op_eq (pe_callB call_len_seq (by rfl) T.len PySem.boot_len (pa_cons (pv 0) pa_nil)) (pv 1) (nomark _)) (pe_one (pe_cmpR (op_eqD hu) (pe_lc (own := [("_law_number", 2)]) (g := gName 2) rfl sc_law_are_whole.nd (pi_tup (pv 0)) (blkOk_by (N := n_law_are_whole) (sc := defScope sAre) (by decide +kernel)) (fun _ _ _ _ _ => pg_name (i := 2) sc_law_are_whole.nd rfl (Or.inl rfl)) (fun _ _ _ _ _ => pts_one (pt_not (pt_val (pe_has H_law_is_whole (hr.mono (by decide)) (by rfl) (pa_cons (pv 2) pa_nil))))) (fun _ _ _ _ _ => (pv 2))) (pe_lst pa_nil) (nomark _))))))), ?_⟩
    refine ⟨x, rfl, x, _, _, _, _, rfl, .ty "tuple", A1.ty, kit_ty (kd_tup k), _, rfl, ?_⟩
    have no : areB k xs m = false → Q (.bl false) H := fun e => by
      have := q H (Same.refl H)
      rw [e] at this
      exact this
    refine ite2 (fun c => ?_) (fun c => no (kd_ne c))
    obtain ⟨a, rfl, hS, hl, hk, hb⟩ := A1.its (by simpa using c)
    refine ⟨_, rfl, a, _, rfl, Or.inr hS, _, rfl, rfl, _, rfl, ?_⟩
    refine ite2 (fun c2 => ?_) (fun c2 => no ?_)
    · have e2 : xs.length = m := by
        have := V.int.inj (of_decide_eq_true c2)
        omega
      unfold tOp
      refine lcTf (K := K) (a := a) (xs := xs) (fun z => !wh z) (fun R r => ⟨_, rfl, r⟩) hS (by omega) (fun x => rfl) (fun i z H3 hi sm Q' q' => ?_) (fun i z H3 hi sm Q' q' => ⟨z, rfl, q'⟩) (fun D H2 hD sm hy => ?_)
      · obtain ⟨l, hl⟩ := (hk z (List.mem_of_getElem? hi)).kd
        exact ⟨z, rfl, z, l, rfl, ofKd_same sm hl, _, rfl, q' _ (Same.refl _)⟩
      · refine ⟨by show 0 ≤ sizeLine; decide, fun p hp => ?_⟩
        have hpD : D ≠ p := ne_of_none hy hp
        obtain ⟨ds, d1, d2, d3, d4⟩ := its_dat (K := K) (H := upd H2 p (.lst [])) (ys := xs.filter fun z => !wh z) fun y hy => (hk y (List.mem_filter.mp hy).1).same (sm.trans (same_new hp))
        refine ⟨.list ds, .list [], .lst (SqL.of (by rw [upd_ne hpD]; exact hy)) d1, .lst (SqL.of upd_same) .nil, ?_, by decide +kernel, ?_⟩
        · unfold SeqAt.shaped
          show (PyData.canLayAll0 ds && decide (PyData.depthAll ds + 1 ≤ 64)) = true
          rw [d2, decide_eq_true (by omega)]
          rfl
        · have := q _ (sm.trans (same_new (p := p) (o := HO.lst []) hp))
          have e3 : areB k xs m = PyData.eqv (.list ds) (.list []) := by
            unfold areB
            rw [c, decide_eq_true e2, Bool.true_and, Bool.true_and]
            cases ds with
            | nil =>
              have e4 : xs.filter (fun z => !wh z) = [] := List.length_eq_zero_iff.mp (by rw [← d4]; rfl)
              rw [List.filter_eq_nil_iff] at e4
              show xs.all wh = true
              refine List.all_eq_true.mpr fun z hz => ?_
              have := e4 z hz
              simpa using this
            | cons d ds =>
              show xs.all wh = false
              have e4 : 0 < (xs.filter (fun z => !wh z)).length := by rw [← d4]; simp
              obtain ⟨z, hz⟩ := List.exists_mem_of_length_pos e4
              rw [List.mem_filter] at hz
              refine Bool.eq_false_iff.mpr fun h => ?_
              have := List.all_eq_true.mp h z hz.1
              rw [this] at hz
              exact absurd hz.2 (by decide)
          rw [e3] at this
          exact this
    · unfold areB
      have : xs.length ≠ m := fun e => c2 (decide_eq_true (by rw [e]))
      rw [decide_eq_false this, Bool.false_and, Bool.and_false]
theorem areB_yes {k : Kd} {xs : List V} {m : Nat} (h : areB k xs m = true) : k = .tup ∧ xs.length = m ∧ ∃ ns : List Int, xs = ns.map V.int := by
  unfold areB at h
  rw [Bool.and_eq_true, Bool.and_eq_true] at h
  exact ⟨by simpa using h.1, of_decide_eq_true h.2.1, all_wh h.2.2⟩
theorem areB_no {k : Kd} {xs : List V} {m : Nat} {g : List V → Bool} (h : ¬ areB k xs m = true) (hw : g xs = true → xs.length = m ∧ xs.all wh = true) : (k == .tup && g xs) = false := by
  cases hk : (k == Kd.tup) with
  | false => rfl
  | true =>
    cases hg : g xs with
    | false => rfl
    | true =>
      obtain ⟨h1, h2⟩ := hw hg
      refine absurd ?_ h
      unfold areB
      rw [hk, decide_eq_true h1, h2]
      rfl
theorem fr_len : ∀ {xs : List V}, isFr xs = true → xs.length = 2 ∧ xs.all wh = true
  | [.int n, .int m], _ => ⟨rfl, rfl⟩
theorem dr_len : ∀ {xs : List V}, isDr xs = true → xs.length = 2 ∧ xs.all wh = true
  | [.int n, .int m], _ => ⟨rfl, rfl⟩
theorem pt_len : ∀ {xs : List V}, isPt xs = true → xs.length = 3 ∧ xs.all wh = true
  | [.int x, .int y, .int w], _ => ⟨rfl, rfl⟩
abbrev n_lthing : List Str := ["_law_thing"]
theorem sc_lfrac : FnScope n_lthing n_lthing (defScope sLFrac) := ⟨rfl, rfl, rfl, by decide +kernel, rfl, by decide +kernel, by decide +kernel⟩
theorem sc_lspot : FnScope n_lthing n_lthing (defScope sLSpot) := ⟨rfl, rfl, rfl, by decide +kernel, rfl, by decide +kernel, by decide +kernel⟩
theorem mem_at {ns : List Int} {i : Nat} {z : Int} (h : ns[i]? = some z) : V.int z ∈ ns.map V.int := List.mem_map_of_mem (List.mem_of_getElem? h)
theorem ok_lfrac {f : Addr} {fd : FuncData} (F : Fun K "_law_is_frac" "_law_is_frac" sLFrac f fd) (T : Bl mg) (H_law_are_whole : Has P w K mg base "_law_are_whole" p_law_are_whole 2 (spAre K)) (H_law_gcd : Has P w K mg base "_law_gcd" p_law_gcd 1 spGcd) : FnOk P w K mg base CX0 3 f fd n_lthing (spTold K isFr) := by
  refine F.ok sc_lfrac (fun vs H Q E h => ?_) (fun cdv A outer s H vs Q E hr h => ?_)
  · obtain ⟨x, k, xs, rfl, _⟩ := h
    rfl
  · obtain ⟨x, k, xs, rfl, A1, q⟩ := h
    refine ⟨_, (pss_one (ps_ret (pe_and (pe_has H_law_are_whole (hr.mono (by decide)) (by rfl) (pa_cons (pv 0) (pa_cons pe_int pa_nil))) (pe_and (pe_cmpR op_gt (pe_ix ix_tup (pv 0) pe_int (fun _ _ => rfl)) pe_int (nomark _)) (pe_one (pe_cmpR op_eq (pe_has H_law_gcd (hr.mono (by decide)) (by rfl) (pa_cons (pe_callB call_abs (by rfl) T.abs PyProof.Rows.boot_abs (pa_cons (pe_ix ix_tup (pv 0) pe_int (fun _ _ => rfl)) pa_nil)) (pa_cons (pe_ix ix_tup (pv 0) pe_int (fun _ _ => rfl)) pa_nil))) pe_int (nomark _))))))), ?_⟩
    refine ⟨x, rfl, x, k, xs, 2, rfl, A1, fun H1 s1 => ⟨_, rfl, ?_⟩⟩
    have no : (k == .tup && isFr xs) = false → Q (.bl false) H1 := fun e => by
      have := q H1 s1
      rw [e] at this
      exact this
    refine ite2 (fun c => ?_) (fun c => no (areB_no c fr_len))
    obtain ⟨rfl, hl, ns, rfl⟩ := areB_yes c
    obtain ⟨a, rfl, hS, _, _, hb⟩ := (A1.same s1).its rfl
    match ns, (show ns.length = 2 by simpa using hl), q, no, hS, hb with
    | [n, m], _, q, no, hS, hb =>
      refine ⟨_, rfl, a, _, 1, _, rfl, rfl, hS, rfl, _, _, rfl, rfl, _, rfl, ?_⟩
      refine ite2 (fun c3 => ?_) (fun c3 => ?_)
      · have m0 := of_decide_eq_true c3
        refine ⟨_, rfl, a, _, 0, _, rfl, rfl, hS, rfl, _, rfl, _, rfl, a, _, 1, _, rfl, rfl, hS, rfl, n.natAbs, m.natAbs, ?_, ?_, rfl, ?_⟩
        · show [V.int (if n < 0 then -n else n), V.int m] ++ [] = _
          rw [abs_nat]
          have : m = ((m.natAbs : Nat) : Int) := by omega
          rw [List.append_nil, ← this]
        · exact hb m (mem_at (ns := [n, m]) (i := 1) rfl)
        · have := q H1 s1
          have e : (Kd.tup == Kd.tup && isFr ([n, m].map V.int)) = decide (V.int ((Nat.gcd n.natAbs m.natAbs : Nat) : Int) = V.int 1) := by
            show (decide (0 < m) && decide (Nat.gcd n.natAbs m.natAbs = 1)) = _
            rw [c3, Bool.true_and]
            refine decide_eq_decide.mpr ⟨fun e => by rw [e]; rfl, fun e => ?_⟩
            have := V.int.inj e
            omega
          rw [e] at this
          exact this
      · refine no ?_
        show (decide (0 < m) && _) = false
        rw [Bool.eq_false_iff.mpr c3]
        rfl
theorem ok_lspot {f : Addr} {fd : FuncData} (F : Fun K "_law_is_spot" "_law_is_spot" sLSpot f fd) (T : Bl mg) (H_law_are_whole : Has P w K mg base "_law_are_whole" p_law_are_whole 2 (spAre K)) (H_law_thin : Has P w K mg base "_law_thin" p_law_thin 2 (spThin K)) : FnOk P w K mg base CX0 3 f fd n_lthing (spTold K isPt) := by
  refine F.ok sc_lspot (fun vs H Q E h => ?_) (fun cdv A outer s H vs Q E hr h => ?_)
  · obtain ⟨x, k, xs, rfl, _⟩ := h
    rfl
  · obtain ⟨x, k, xs, rfl, A1, q⟩ := h
    have hu : (A.deeper (PyProof.Rows.envOfC "_law_is_spot" (defScope sLSpot) s.heap.objs.size f cdv)).units + 64 < cLine := hr.units
    refine ⟨_, (pss_one (ps_ret (pe_and (pe_has H_law_are_whole (hr.mono (by decide)) (by rfl) (pa_cons (pv 0) (pa_cons pe_int pa_nil))) (pe_and (pe_cmpR op_gt (pe_ix ix_tup (pv 0) pe_int (fun _ _ => rfl)) pe_int (nomark _)) (pe_one (pe_cmpR (op_eqD hu) (pe_has H_law_thin (hr.mono (by decide)) (by rfl) (pa_cons (pv 0) pa_nil)) (pv 0) (nomark _))))))), ?_⟩
    refine ⟨x, rfl, x, k, xs, 3, rfl, A1, fun H1 s1 => ⟨_, rfl, ?_⟩⟩
    have no : (k == .tup && isPt xs) = false → Q (.bl false) H1 := fun e => by
      have := q H1 s1
      rw [e] at this
      exact this
    refine ite2 (fun c => ?_) (fun c => no (areB_no c pt_len))
    obtain ⟨rfl, hl, ns, rfl⟩ := areB_yes c
    obtain ⟨a, rfl, hS, _, _, hb⟩ := (A1.same s1).its rfl
    match ns, (show ns.length = 3 by simpa using hl), q, no, hS, hb with
    | [n, m, l], _, q, no, hS, hb =>
      refine ⟨_, rfl, a, _, 2, _, rfl, rfl, hS, rfl, _, _, rfl, rfl, _, rfl, ?_⟩
      refine ite2 (fun c3 => ?_) (fun c3 => ?_)
      · have l0 := of_decide_eq_true c3
        refine ⟨_, rfl, a, [n, m, l], rfl, hS, by simp, fun z hz => hb z (List.mem_map_of_mem hz), fun p H2 s2 hp => ?_⟩
        refine ⟨_, rfl, _, _, dp_ints hp, dp_ints (ns := [n, m, l]) (same_sqT s2 hS), shaped_ints _, shaped_ints _, ?_⟩
        rw [eqv_ints]
        have := q H2 (s1.trans s2)
        have e : (Kd.tup == Kd.tup && isPt ([n, m, l].map V.int)) = decide (thin [n, m, l] = [n, m, l]) := by
          show (decide (0 < l) && decide (Nat.gcd (Nat.gcd n.natAbs m.natAbs) l.natAbs = 1)) = _
          rw [c3, Bool.true_and]
          exact decide_eq_decide.mpr (spot_is l0).symm
        rw [e] at this
        exact this
      · refine no ?_
        show (decide (0 < l) && _) = false
        rw [Bool.eq_false_iff.mpr c3]
        rfl
end
end K7
namespace K7
open PySem L2 Ur
section
variable {P : Program} {w : World} {K :
      PySem.W.Frag} {mg : Str → Option Value} {base : Heap}
abbrev p_law_any : List Str := ["_law_urn_here", "_law_some"]
theorem sc_law_any : FnScope p_law_any p_law_any (defScope sAny) := ⟨rfl, rfl, rfl, by decide +kernel, rfl, by decide +kernel, by decide +kernel⟩
def spAny : Sp := fun vs H Q _ => ∃ (u l : Addr) (xs : List V), vs = [.ref u, .ref l] ∧ H u = some (UrnO u) ∧ H l = some (.lst xs) ∧ 0 < xs.length ∧ xs.length ≤ 1000 ∧ ∀ (x : V) (H' : Hp), x ∈ xs → Same H H' → Q x H'
theorem ok_any {f : Addr} {fd : FuncData} (F : Fun K "_law_any" "_law_any" sAny f fd) (T : Bl mg) (H_law_pull : Has P w K mg base "_law_pull" ["_law_urn_here", "_law_many"] 1 spPull) : FnOk P w K mg base CX0 2 f fd p_law_any spAny := by
  refine F.ok sc_law_any (fun vs H Q E h => ?_) (fun cdv A outer s H vs Q E hr h => ?_)
  · obtain ⟨u, l, xs, rfl, _⟩ := h
    rfl
  · obtain ⟨u, l, xs, rfl, hu, hl, h0, h1, q⟩ := h
    refine ⟨_, (pss_one (ps_ret (pe_ix ix_list (pv 1) (pe_has H_law_pull (hr.mono (by decide)) (by rfl) (pa_cons (pv 0) (pa_cons (pe_callB call_len_seq (by rfl) T.len PySem.boot_len (pa_cons (pv 1) pa_nil)) pa_nil))) (fun _ _ => rfl)))), ?_⟩
    refine ⟨_, rfl, _, rfl, _, rfl, l, xs, rfl, Or.inl (SqL.of hl), u, _, rfl, hu, by omega, by omega, fun r H1 r0 r1 s1 => ?_⟩
    obtain ⟨j, rfl⟩ := Int.eq_ofNat_of_zero_le r0
    have hj : j < xs.length := by omega
    exact ⟨l, xs, _, _, rfl, rfl, SqL.of (s1 _ _ hl), atI_nat (List.getElem?_eq_getElem hj), q _ H1 (List.getElem_mem hj) s1⟩
abbrev p_law_num : List Str := ["_law_urn_here", "_law_high"]
def spNum : Sp := fun vs H Q _ => ∃ (u : Addr) (m : Int), vs = [.ref u, .int m] ∧ H u = some (UrnO u) ∧ 0 ≤ m ∧ m ≤ 500000000 ∧ ∀ (r : Int) (H' : Hp), -m ≤ r → r ≤ m → Same H H' → Q (.int r) H'
abbrev p_law_laps : List Str := ["_law_script"]
theorem sc_law_laps : FnScope p_law_laps p_law_laps (defScope sLaps) := ⟨rfl, rfl, rfl, by decide +kernel, rfl, by decide +kernel, by decide +kernel⟩
def spLaps (K : PySem.W.Frag) : Sp := fun vs H Q _ => ∃ (a : Addr) (xs : List V), vs = [.ref a] ∧ SqL K H a xs ∧ ∀ n : Int, 2 ≤ n → n ≤ 3 → Q (.int n) H
theorem ok_laps {f : Addr} {fd : FuncData} (F : Fun K "_law_laps" "_law_laps" sLaps f fd) (T : Bl mg) : FnOk P w K mg base CX0 1 f fd p_law_laps (spLaps K) := by
  refine F.ok sc_law_laps (fun vs H Q E h => ?_) (fun cdv A outer s H vs Q E hr h => ?_)
  · obtain ⟨a, xs, rfl, _⟩ := h
    rfl
  · obtain ⟨a, xs, rfl, hS, q⟩ := h
    refine ⟨_, (pss_one (ps_ret (pe_callB (call_max2 rfl) (by rfl) T.max PyProof.Rows.boot_max (pa_cons pe_int (pa_cons (pe_callB (call_min2 rfl) (by rfl) T.min PyProof.Rows.boot_min (pa_cons (pe_callB call_len_seq (by rfl) T.len PySem.boot_len (pa_cons (pv 0) pa_nil)) (pa_cons pe_int pa_nil))) pa_nil))))), ?_⟩
    refine ⟨_, rfl, a, xs, rfl, Or.inl hS, _, _, rfl, _, _, rfl, ?_⟩
    exact q _ (by split <;> split at * <;> omega) (by split <;> split at * <;> omega)
/-! ### what stands in the row -/
/-- the items of a row as far as they are known -/
structure Row (K : PySem.W.Frag) (H : Hp) (zs : List V) : Prop where
  few : zs.length ≤ 5
  its : ∀ y ∈ zs, It K H y
  big : ∀ i, V.int i ∈ zs → i.natAbs < 2 ^ 9000
theorem Row.same {K : PySem.W.Frag} {H H' : Hp} {zs : List V} (s : Same H H') (r : Row K H zs) : Row K H' zs := ⟨r.few, fun y hy => (r.its y hy).same s, r.big⟩
theorem big_of {i : Int} (h : i.natAbs ≤ 10 ^ 13) : i.natAbs < 2 ^ 9000 :=
  Nat.lt_of_le_of_lt h (Nat.lt_of_lt_of_le (by decide : 10 ^ 13 < 2 ^ 50) (Nat.pow_le_pow_right (by decide) (by decide)))
theorem it_int {K : PySem.W.Frag} {H : Hp} (i : Int) : It K H (.int i) := ⟨⟨.int, .base (.int i)⟩, .int i, .int i, rfl, Nat.zero_le _⟩
theorem it_bl {K : PySem.W.Frag} {H : Hp} (b : Bool) : It K H (.bl b) := ⟨⟨.bool, .base (.bl b)⟩, .bool b, .bl b, rfl, Nat.zero_le _⟩
theorem it_non {K : PySem.W.Frag} {H : Hp} : It K H .non := ⟨⟨.non, .base .non⟩, .none, .non, rfl, Nat.zero_le _⟩
theorem it_str {K : PySem.W.Frag} {H : Hp} {x : Str} (h : PyData.canLay0 (.str x) = true) : It K H (.str x) := ⟨⟨.str, .base (.str x)⟩, .str x, .str x, h, Nat.zero_le _⟩
theorem it_tup {K : PySem.W.Frag} {H : Hp} {a : Addr} {ns : List Int} (h : SqT K H a (ns.map V.int)) : It K H (.ref a) :=
  ⟨⟨.tup, tup_kd h⟩, _, dp_ints h, lay_ints ns, by show PyData.depthAll _ + 1 ≤ 8; rw [depth_ints]; decide⟩
theorem row_ints {K : PySem.W.Frag} {H : Hp} {ns : List Int} (hl : ns.length ≤ 5) (hb : ∀ n ∈ ns, n.natAbs ≤ 10 ^ 13) : Row K H (ns.map V.int) := by
  refine ⟨by simpa using hl, fun y hy => ?_, fun i hi => ?_⟩
  · obtain ⟨n, _, rfl⟩ := List.mem_map.mp hy
    exact it_int n
  · obtain ⟨n, hn, e⟩ := List.mem_map.mp hi
    cases e
    exact big_of (hb _ hn)
theorem arg_tup {K : PySem.W.Frag} {H : Hp} {a : Addr} {zs : List V} (h : SqT K H a zs) (r : Row K H zs) : Arg K H (.ref a) .tup zs :=
  ⟨tup_kd h, fun _ => ⟨a, rfl, h, Nat.le_trans r.few (by decide), r.its, r.big⟩⟩
theorem arg_of {K : PySem.W.Frag} {H : Hp} {x : V} {k : Kd} (h : OfKd K H x k) (hk : k ≠ .tup) : Arg K H x k [] := ⟨h, fun e => absurd e hk⟩
theorem ints_of {ys : List V} {m : Int} (h : ∀ (i : Nat) (y : V), ys[i]? = some y → ∃ z : Int, y = .int z ∧ -m ≤ z ∧ z ≤ m) : ∃ ns : List Int, ys = ns.map V.int ∧ ∀ n ∈ ns, -m ≤ n ∧ n ≤ m := by
  induction ys with
  | nil => exact ⟨[], rfl, fun _ h => nomatch h⟩
  | cons y r ih =>
    obtain ⟨ns, rfl, h2⟩ := ih fun i y hi => h (i + 1) y (by simpa using hi)
    obtain ⟨z, rfl, hz⟩ := h 0 y rfl
    refine ⟨z :: ns, rfl, fun n hn => ?_⟩
    rcases List.mem_cons.mp hn with rfl | hn
    · exact hz
    · exact h2 n hn
/-- an int out of a written menu -/
theorem menu {x : V} {l : List Int} {lo hi : Int} (h : x ∈ l.map V.int) (hb : ∀ i ∈ l, lo ≤ i ∧ i ≤ hi) : ∃ i, x = .int i ∧ lo ≤ i ∧ i ≤ hi := by
  obtain ⟨i, h1, rfl⟩ := List.mem_map.mp h
  exact ⟨i, rfl, hb i h1⟩
/-- behind the first test: where the row stands, what is known of its items -/
def Mid1 (K : PySem.W.Frag) (H : Hp) (u : Addr) (h kd fc : Int) (σ : L2.St) (H' : Hp) : Prop := ∃ (D : Addr) (zs : List V) (v w : Option V), σ = [some (.ref u), some (.int h), some (.ref D), some (.int kd), some (.int fc), v, w] ∧ Same H H' ∧ H D = none ∧ H' D = some (.lst zs) ∧ Row K H' zs ∧
  (kd ≠ 0 → ∃ ns : List Int, zs = ns.map V.int ∧ ∀ n ∈ ns, -1000000 ≤ n ∧ n ≤ 1000000)
def Mid2 (K : PySem.W.Frag) (H : Hp) (u : Addr) (h kd fc : Int) (σ : L2.St) (H' : Hp) : Prop := ∃ (D : Addr) (zs : List V) (v w : Option V), σ = [some (.ref u), some (.int h), some (.ref D), some (.int kd), some (.int fc), v, w] ∧ Same H H' ∧ H' D = some (.lst zs) ∧ Row K H' zs
/-! ### thing -/
abbrev n_law_thing : List Str := ["_law_urn_here", "_law_high", "_law_row", "_law_kind", "_law_factor", "_law_step", "_law_number"]
abbrev p_law_thing : List Str := ["_law_urn_here"]
def spThing (K : PySem.W.Frag) : Sp := fun vs H Q _ => ∃ u : Addr, vs = [.ref u] ∧ H u = some (UrnO u) ∧ ∀ (x : V) (k : Kd) (xs : List V) (H' : Hp), Same H H' → Arg K H' x k xs → Q x H'
end
end K7

namespace K7
open PySem L2 Ur
/-! ### points as lists of three ints, plain -/
theorem thin_eq {ns : List Int} (h : 0 < gAll ns) : thin ns = ns.map fun n => n / (gAll ns : Int) := by
  unfold thin
  split
  · have : gAll ns = 1 := by omega
    rw [this]
    show ns = ns.map fun n => n / 1
    simp
  · rfl
theorem gAll_2 (a b : Int) : gAll [a, b] = Nat.gcd a.natAbs b.natAbs := by
  show Nat.gcd (Nat.gcd 0 a.natAbs) b.natAbs = _
  rw [Nat.gcd_zero_left]
theorem gAll_3 (a b c : Int) : gAll [a, b, c] = Nat.gcd (Nat.gcd a.natAbs b.natAbs) c.natAbs := by
  show Nat.gcd (Nat.gcd (Nat.gcd 0 a.natAbs) b.natAbs) c.natAbs = _
  rw [Nat.gcd_zero_left]
theorem g3_pos {x y w : Int} (h : 0 < w) : 0 < gAll [x, y, w] := by
  rw [gAll_3]
  exact Nat.gcd_pos_of_pos_right _ (by omega)
theorem g2_pos {x w : Int} (h : 0 < w) : 0 < gAll [x, w] := by
  rw [gAll_2]
  exact Nat.gcd_pos_of_pos_right _ (by omega)
theorem ex_div {g : Nat} {x : Int} (h : g ∣ x.natAbs) : ∃ q : Int, x = (g : Int) * q := Int.ofNat_dvd_left.mpr h
/-- thin, by what it is multiplied with -/
theorem thin3 {x y w : Int} (h : 0 < w) : ∃ (g p q r : Int), 0 < g ∧ x = g * p ∧ y = g * q ∧ w = g * r ∧ thin [x, y, w] = [p, q, r] ∧ Nat.gcd (Nat.gcd p.natAbs q.natAbs) r.natAbs = 1 := by
  have hg := g3_pos (x := x) (y := y) h
  have e := thin_eq hg
  obtain ⟨p, hp⟩ := ex_div (g := gAll [x, y, w]) (x := x) (by rw [gAll_3]; exact Nat.dvd_trans (Nat.gcd_dvd_left _ _) (Nat.gcd_dvd_left _ _))
  obtain ⟨q, hq⟩ := ex_div (g := gAll [x, y, w]) (x := y) (by rw [gAll_3]; exact Nat.dvd_trans (Nat.gcd_dvd_left _ _) (Nat.gcd_dvd_right _ _))
  obtain ⟨r, hr⟩ := ex_div (g := gAll [x, y, w]) (x := w) (by rw [gAll_3]; exact Nat.gcd_dvd_right _ _)
  have h3 := gAll_3 x y w
  generalize gAll [x, y, w] = g at *
  have hg' : (g : Int) ≠ 0 := by omega
  refine ⟨g, p, q, r, by omega, hp, hq, hr, ?_, ?_⟩
  · rw [e]
    show [x / (g : Int), y / (g : Int), w / (g : Int)] = _
    rw [hp, hq, hr, Int.mul_ediv_cancel_left _ hg', Int.mul_ediv_cancel_left _ hg', Int.mul_ediv_cancel_left _ hg']
  · rw [hp, hq, hr, Int.natAbs_mul, Int.natAbs_mul, Int.natAbs_mul, Int.natAbs_natCast, Nat.gcd_mul_left, Nat.gcd_mul_left] at h3
    have : g * 1 = g * Nat.gcd (Nat.gcd p.natAbs q.natAbs) r.natAbs := by rw [Nat.mul_one]; exact h3
    exact (Nat.eq_of_mul_eq_mul_left hg this).symm
theorem thin2 {x w : Int} (h : 0 < w) : ∃ (g p r : Int), 0 < g ∧ x = g * p ∧ w = g * r ∧ thin [x, w] = [p, r] ∧ Nat.gcd p.natAbs r.natAbs = 1 := by
  have hg := g2_pos (x := x) h
  have e := thin_eq hg
  obtain ⟨p, hp⟩ := ex_div (g := gAll [x, w]) (x := x) (by rw [gAll_2]; exact Nat.gcd_dvd_left _ _)
  obtain ⟨r, hr⟩ := ex_div (g := gAll [x, w]) (x := w) (by rw [gAll_2]; exact Nat.gcd_dvd_right _ _)
  have h3 := gAll_2 x w
  generalize gAll [x, w] = g at *
  have hg' : (g : Int) ≠ 0 := by omega
  refine ⟨g, p, r, by omega, hp, hr, ?_, ?_⟩
  · rw [e]
    show [x / (g : Int), w / (g : Int)] = _
    rw [hp, hr, Int.mul_ediv_cancel_left _ hg', Int.mul_ediv_cancel_left _ hg']
  · rw [hp, hr, Int.natAbs_mul, Int.natAbs_mul, Int.natAbs_natCast, Nat.gcd_mul_left] at h3
    have : g * 1 = g * Nat.gcd p.natAbs r.natAbs := by rw [Nat.mul_one]; exact h3
    exact (Nat.eq_of_mul_eq_mul_left hg this).symm
theorem pos_of {g r : Int} (hg : 0 < g) (h : 0 < g * r) : 0 < r := Int.pos_of_mul_pos_right h hg
theorem abs_le {g p : Int} {n : Nat} (hg : 0 < g) (h : (g * p).natAbs ≤ n) : p.natAbs ≤ n := by
  rw [Int.natAbs_mul] at h
  have : 1 * p.natAbs ≤ g.natAbs * p.natAbs := Nat.mul_le_mul_right _ (by omega)
  omega
/-- a point's three numbers: reduced, the last above 0, none above n -/
structure PtL (n : Nat) (a : List Int) (x y w : Int) : Prop where
  eq : a = [x, y, w]
  pos : 0 < w
  red : Nat.gcd (Nat.gcd x.natAbs y.natAbs) w.natAbs = 1
  bx : x.natAbs ≤ n
  bby : y.natAbs ≤ n
  bw : w.natAbs ≤ n
structure FrL (n : Nat) (a : List Int) (t b : Int) : Prop where
  eq : a = [t, b]
  pos : 0 < b
  red : Nat.gcd t.natAbs b.natAbs = 1
  bt : t.natAbs ≤ n
  bb : b.natAbs ≤ n
theorem pt_thin {x y w : Int} {n : Nat} (h : 0 < w) (hx : x.natAbs ≤ n) (hy : y.natAbs ≤ n) (hw : w.natAbs ≤ n) : ∃ (g p q r : Int), 0 < g ∧ x = g * p ∧ y = g * q ∧ w = g * r ∧ PtL n (thin [x, y, w]) p q r := by
  obtain ⟨g, p, q, r, g0, e1, e2, e3, e4, e5⟩ := thin3 (x := x) (y := y) h
  exact ⟨g, p, q, r, g0, e1, e2, e3, ⟨e4, pos_of g0 (e3 ▸ h), e5, abs_le g0 (e1 ▸ hx), abs_le g0 (e2 ▸ hy), abs_le g0 (e3 ▸ hw)⟩⟩
theorem fr_thin {x w : Int} {n : Nat} (h : 0 < w) (hx : x.natAbs ≤ n) (hw : w.natAbs ≤ n) : ∃ (g p r : Int), 0 < g ∧ x = g * p ∧ w = g * r ∧ FrL n (thin [x, w]) p r := by
  obtain ⟨g, p, r, g0, e1, e3, e4, e5⟩ := thin2 (x := x) h
  exact ⟨g, p, r, g0, e1, e3, ⟨e4, pos_of g0 (e3 ▸ h), e5, abs_le g0 (e1 ▸ hx), abs_le g0 (e3 ▸ hw)⟩⟩
/-- a point times a number above 0, made thin, is the point -/
theorem thin_mul {x y w k : Int} (hk : 0 < k) (hw : 0 < w) (h : Nat.gcd (Nat.gcd x.natAbs y.natAbs) w.natAbs = 1) : thin [k * x, k * y, k * w] = [x, y, w] := by
  have hg : gAll [k * x, k * y, k * w] = k.natAbs := by
    rw [gAll_3, Int.natAbs_mul, Int.natAbs_mul, Int.natAbs_mul, Nat.gcd_mul_left, Nat.gcd_mul_left, h, Nat.mul_one]
  rw [thin_eq (by rw [hg]; omega), hg]
  have ek : ((k.natAbs : Nat) : Int) = k := by omega
  have k0 : k ≠ 0 := by omega
  rw [ek]
  show [k * x / k, k * y / k, k * w / k] = _
  rw [Int.mul_ediv_cancel_left _ k0, Int.mul_ediv_cancel_left _ k0, Int.mul_ediv_cancel_left _ k0]
def sumL : List Int → List Int → List Int
  | [x, y, w], [u, v, z] => thin [x * z + u * w, y * z + v * w, w * z]
  | _, _ => []
def wayL : List Int → List Int → List Int
  | [x, y, w], [u, v, z] => thin [u * w - x * z, v * w - y * z, w * z]
  | _, _ => []
def byL : List Int → List Int → List Int
  | [x, y, w], [n, m] => thin [x * n, y * n, w * m]
  | _, _ => []
def innL : List Int → List Int → List Int
  | [x, y, w], [u, v, z] => thin [x * u + y * v, w * z]
  | _, _ => []
def crsL : List Int → List Int → List Int
  | [x, y, w], [u, v, z] => thin [x * v - y * u, w * z]
  | _, _ => []
def qtrL : List Int → List Int
  | [x, y, w] => [-y, x, w]
  | _ => []
def sgn (n : Int) : Int := if 0 < n then 1 else if n < 0 then -1 else 0
def sidL : List Int → List Int → List Int → Int
  | [x, y, w], [u, v, z], [p, q, r] => sgn ((x * v - u * y) * r - (v * w - y * z) * p - (x * z - u * w) * q)
  | _, _, _ => 0
theorem mulb {x y : Int} {n m : Nat} (hx : x.natAbs ≤ n) (hy : y.natAbs ≤ m) : (x * y).natAbs ≤ n * m := by
  rw [Int.natAbs_mul]
  exact Nat.mul_le_mul hx hy
theorem addb {x y : Int} {n m : Nat} (hx : x.natAbs ≤ n) (hy : y.natAbs ≤ m) : (x + y).natAbs ≤ n + m := by omega
theorem subb {x y : Int} {n m : Nat} (hx : x.natAbs ≤ n) (hy : y.natAbs ≤ m) : (x - y).natAbs ≤ n + m := by omega
theorem pt_sum {a b : List Int} {x y w u v z : Int} {n m : Nat} (A : PtL n a x y w) (B : PtL m b u v z) : ∃ (g p q r : Int), 0 < g ∧ x * z + u * w = g * p ∧ y * z + v * w = g * q ∧ w * z = g * r ∧ PtL (n * m + m * n) (sumL a b) p q r := by
  have ea := A.eq
  have eb := B.eq
  subst ea eb
  exact pt_thin (Int.mul_pos A.pos B.pos) (addb (mulb A.bx B.bw) (mulb B.bx A.bw)) (addb (mulb A.bby B.bw) (mulb B.bby A.bw)) (Nat.le_trans (mulb A.bw B.bw) (Nat.le_add_right _ _))
theorem pt_way {a b : List Int} {x y w u v z : Int} {n m : Nat} (A : PtL n a x y w) (B : PtL m b u v z) : ∃ (g p q r : Int), 0 < g ∧ u * w - x * z = g * p ∧ v * w - y * z = g * q ∧ w * z = g * r ∧ PtL (m * n + n * m) (wayL a b) p q r := by
  have ea := A.eq
  have eb := B.eq
  subst ea eb
  exact pt_thin (Int.mul_pos A.pos B.pos) (subb (mulb B.bx A.bw) (mulb A.bx B.bw)) (subb (mulb B.bby A.bw) (mulb A.bby B.bw)) (Nat.le_trans (mulb A.bw B.bw) (by omega))
theorem pt_by {a b : List Int} {x y w n m : Int} {i j : Nat} (A : PtL i a x y w) (B : FrL j b n m) : ∃ (g p q r : Int), 0 < g ∧ x * n = g * p ∧ y * n = g * q ∧ w * m = g * r ∧ PtL (i * j) (byL a b) p q r := by
  have ea := A.eq
  have eb := B.eq
  subst ea eb
  exact pt_thin (Int.mul_pos A.pos B.pos) (mulb A.bx B.bt) (mulb A.bby B.bt) (mulb A.bw B.bb)
theorem pt_qtr {a : List Int} {x y w : Int} {n : Nat} (A : PtL n a x y w) : PtL n (qtrL a) (-y) x w := by
  have ea := A.eq
  subst ea
  refine ⟨rfl, A.pos, ?_, by rw [Int.natAbs_neg]; exact A.bby, A.bx, A.bw⟩
  rw [Int.natAbs_neg, Nat.gcd_comm y.natAbs x.natAbs]
  exact A.red
theorem fr_inn {a b : List Int} {x y w u v z : Int} {n m : Nat} (A : PtL n a x y w) (B : PtL m b u v z) : ∃ (g p r : Int), 0 < g ∧ x * u + y * v = g * p ∧ w * z = g * r ∧ FrL (n * m + n * m) (innL a b) p r := by
  have ea := A.eq
  have eb := B.eq
  subst ea eb
  exact fr_thin (Int.mul_pos A.pos B.pos) (addb (mulb A.bx B.bx) (mulb A.bby B.bby)) (Nat.le_trans (mulb A.bw B.bw) (Nat.le_add_right _ _))
theorem fr_crs {a b : List Int} {x y w u v z : Int} {n m : Nat} (A : PtL n a x y w) (B : PtL m b u v z) : ∃ (g p r : Int), 0 < g ∧ x * v - y * u = g * p ∧ w * z = g * r ∧ FrL (n * m + n * m) (crsL a b) p r := by
  have ea := A.eq
  have eb := B.eq
  subst ea eb
  exact fr_thin (Int.mul_pos A.pos B.pos) (subb (mulb A.bx B.bby) (mulb A.bby B.bx)) (Nat.le_trans (mulb A.bw B.bw) (Nat.le_add_right _ _))
/-- there and back -/
theorem way_back {a b : List Int} {x y w u v z : Int} {n m : Nat} (A : PtL n a x y w) (B : PtL m b u v z) : sumL (wayL b a) b = a := by
  obtain ⟨g, p, q, r, g0, e1, e2, e3, C⟩ := pt_way B A
  have ea := A.eq
  have eb := B.eq
  subst ea eb
  rw [C.eq]
  show thin [p * z + u * r, q * z + v * r, r * z] = [x, y, w]
  have f1 : g * (p * z + u * r) = z * z * x := by grind
  have f2 : g * (q * z + v * r) = z * z * y := by grind
  have f3 : g * (r * z) = z * z * w := by grind
  have rz : 0 < r * z := Int.mul_pos C.pos B.pos
  obtain ⟨h, p', q', r', h0, i1, i2, i3, i4, i5⟩ := thin3 (x := p * z + u * r) (y := q * z + v * r) rz
  rw [i4]
  have k0 : 0 < g * h := Int.mul_pos g0 h0
  have j1 := thin_mul (x := p') (y := q') (w := r') k0 (pos_of h0 (i3 ▸ rz)) i5
  have j2 := thin_mul (k := z * z) (Int.mul_pos B.pos B.pos) A.pos A.red
  rw [← j1, ← j2, ← f1, ← f2, ← f3, i1, i2, i3, Int.mul_assoc, Int.mul_assoc, Int.mul_assoc]
theorem sgn_pos {k n : Int} (hk : 0 < k) : sgn (k * n) = sgn n := by
  unfold sgn
  by_cases h1 : 0 < n
  · rw [if_pos h1, if_pos (Int.mul_pos hk h1)]
  · by_cases h2 : n < 0
    · have : k * n < 0 := Int.mul_neg_of_pos_of_neg hk h2
      rw [if_neg h1, if_pos h2, if_neg (by omega), if_pos this]
    · have : n = 0 := by omega
      subst this
      rw [Int.mul_zero]
theorem sgn_neg (n : Int) : sgn (-n) = -sgn n := by
  unfold sgn
  split <;> split <;> (try split) <;> (try split) <;> omega
theorem det_id (x y w u v z p q r : Int) : (u * w - x * z) * (q * w - y * r) - (v * w - y * z) * (p * w - x * r) = w * ((x * v - u * y) * r - (v * w - y * z) * p - (x * z - u * w) * q) := by grind
theorem det_g {g1 g2 g t p1 q1 p2 q2 : Int} (h : p1 * q2 - q1 * p2 = g * t) : (g1 * g2 * g) * t = (g1 * p1) * (g2 * q2) - (g1 * q1) * (g2 * p2) := by grind
/-- the side by the cross product of the two ways -/
theorem side_is {a b c : List Int} {x y w u v z p q r : Int} {n m l : Nat} (A : PtL n a x y w) (B : PtL m b u v z) (C : PtL l c p q r) : ∃ t e : Int, crsL (wayL a b) (wayL a c) = [t, e] ∧ sgn t = sidL a b c := by
  obtain ⟨g1, p1, q1, r1, g10, d1, d2, d3, D⟩ := pt_way A B
  obtain ⟨g2, p2, q2, r2, g20, e1, e2, e3, E⟩ := pt_way A C
  obtain ⟨g, t, e, g0, f1, f2, F⟩ := fr_crs D E
  refine ⟨t, e, F.eq, ?_⟩
  have ea := A.eq
  have eb := B.eq
  have ec := C.eq
  subst ea eb ec
  show sgn t = sgn ((x * v - u * y) * r - (v * w - y * z) * p - (x * z - u * w) * q)
  have hh : (g1 * g2 * g) * t = w * ((x * v - u * y) * r - (v * w - y * z) * p - (x * z - u * w) * q) := by
    rw [det_g f1, ← d1, ← d2, ← e1, ← e2]
    exact det_id x y w u v z p q r
  rw [← sgn_pos (Int.mul_pos (Int.mul_pos g10 g20) g0), hh, sgn_pos A.pos]
theorem side_swap {a b c : List Int} {x y w u v z p q r : Int} {n m l : Nat} (A : PtL n a x y w) (B : PtL m b u v z) (C : PtL l c p q r) : sidL b a c = -sidL a b c ∧ sidL a c b = -sidL a b c := by
  have ea := A.eq
  have eb := B.eq
  have ec := C.eq
  subst ea eb ec
  constructor
  · show sgn _ = -sgn _
    rw [← sgn_neg]
    congr 1
    grind
  · show sgn _ = -sgn _
    rw [← sgn_neg]
    congr 1
    grind
end K7
namespace K7
open PySem L2 Ur
section
variable {P : Program} {w : World} {K :
      PySem.W.Frag} {mg : Str → Option Value} {base : Heap}
end
end K7
namespace K7
open PySem L2 Ur
section
variable {P : Program} {w : World} {K :
      PySem.W.Frag} {mg : Str → Option Value} {base : Heap}
end
end K7
namespace Ur
open PySem L2
/-! ### Euclid, by halves -/
end Ur
namespace K7
open PySem L2 Ur
section
variable {P : Program} {w : World} {K :
      PySem.W.Frag} {mg : Str → Option Value} {base : Heap}
/-! ### thin -/
end
end K7
namespace K7
open PySem L2 Ur
section
variable {P : Program} {w : World} {K :
      PySem.W.Frag} {mg : Str → Option Value} {base : Heap}
/-! ### gcds -/
/-! ### whole numbers -/
end
end K7
namespace K7
open PySem L2 Ur
section
variable {P : Program} {w : World} {K :
      PySem.W.Frag} {mg : Str → Option Value} {base : Heap}
/-! ### the module's own -/
end
end K7
namespace K7
open PySem L2 Ur
/-! ### plain -/
section
variable {P : Program} {w : World} {K :
      PySem.W.Frag} {mg : Str → Option Value} {base : Heap}
end
end K7
namespace K7
open PySem L2 Ur
section
variable {P : Program} {w : World} {K :
      PySem.W.Frag} {mg : Str → Option Value} {base : Heap}
/-! ### what stands in the row -/
/-! ### thing -/
end
end K7
namespace K7
open PySem L2 Ur
abbrev sSign : Stmt := top 6
abbrev sRatio : Stmt := top 8
abbrev sPlace : Stmt := top 10
abbrev sPSum : Stmt := top 11
abbrev sWayTo : Stmt := top 12
abbrev sPTimes : Stmt := top 13
abbrev sPBetw : Stmt := top 14
abbrev sInnerOf : Stmt := top 15
abbrev sCrossOf : Stmt := top 16
abbrev sQuarterOf : Stmt := top 17
abbrev sSideOf : Stmt := top 18
abbrev sLine : Stmt := top 19
def spN3 (K : PySem.W.Frag) : Sp := fun vs H Q _ => ∃ x y w : Int, vs = [.int x, .int y, .int w] ∧ 0 < w ∧ x.natAbs ≤ 2 ^ 100 ∧ y.natAbs ≤ 2 ^ 100 ∧ w.natAbs ≤ 2 ^ 100 ∧ ∀ p H', Same H H' → Tp K H' p (thin [x, y, w]) → Q p H'
def spN2 (K : PySem.W.Frag) : Sp := fun vs H Q _ => ∃ x w : Int, vs = [.int x, .int w] ∧ 0 < w ∧ x.natAbs ≤ 2 ^ 100 ∧ w.natAbs ≤ 2 ^ 100 ∧ ∀ p H', Same H H' → Tp K H' p (thin [x, w]) → Q p H'
def spP1 (K : PySem.W.Frag) (f : List Int → List Int) : Sp := fun vs H Q _ => ∃ (v : V) (a : List Int) (x y w : Int) (n : Nat), vs = [v] ∧ Tp K H v a ∧ PtL n a x y w ∧ n ≤ 2 ^ 40 ∧ ∀ p H', Same H H' → Tp K H' p (f a) → Q p H'
def spP2 (K : PySem.W.Frag) (f : List Int → List Int → List Int) : Sp := fun vs H Q _ => ∃ (v v' : V) (a b : List Int) (x y w x' y' w' : Int) (n m : Nat), vs = [v, v'] ∧ Tp K H v a ∧ Tp K H v' b ∧ PtL n a x y w ∧ PtL m b x' y' w' ∧ n ≤ 2 ^ 40 ∧ m ≤ 2 ^ 40 ∧ ∀ p H', Same H H' → Tp K H' p (f a b) → Q p H'
def spPF (K : PySem.W.Frag) (f : List Int → List Int → List Int) : Sp := fun vs H Q _ => ∃ (v v' : V) (a b : List Int) (x y w t e : Int) (n m : Nat), vs = [v, v'] ∧ Tp K H v a ∧ Tp K H v' b ∧ PtL n a x y w ∧ FrL m b t e ∧ n ≤ 2 ^ 40 ∧ m ≤ 2 ^ 40 ∧ ∀ p H', Same H H' → Tp K H' p (f a b) → Q p H'
def betL (a b f : List Int) : List Int := sumL a (byL (wayL a b) f)
/-- between: the numbers are small -/
def spPPF (K : PySem.W.Frag) : Sp := fun vs H Q _ => ∃ (v v' v'' : V) (a b c : List Int) (x y w x' y' w' t e : Int), vs = [v, v', v''] ∧ Tp K H v a ∧ Tp K H v' b ∧ Tp K H v'' c ∧ PtL 100 a x y w ∧ PtL 100 b x' y' w' ∧ FrL 100 c t e ∧ ∀ p H', Same H H' → Tp K H' p (betL a b c) → Q p H'
def spSide (K : PySem.W.Frag) : Sp := fun vs H Q _ => ∃ (v v' v'' : V) (a b c : List Int) (x y w x' y' w' p q r : Int) (n m l : Nat), vs = [v, v', v''] ∧ Tp K H v a ∧ Tp K H v' b ∧ Tp K H v'' c ∧ PtL n a x y w ∧ PtL m b x' y' w' ∧ PtL l c p q r ∧ n ≤ 2 ^ 30 ∧ m ≤ 2 ^ 30 ∧ l ≤ 2 ^ 30 ∧
  ∀ H', Same H H' → Q (.int (sidL a b c)) H'
theorem b100 {n : Nat} (h : n ≤ 2 ^ 100) : n < 2 ^ 9000 := Nat.lt_of_le_of_lt h (Nat.pow_lt_pow_right (by decide) (by decide))
theorem le100 {n m : Nat} (h : n ≤ m) (hm : m ≤ 2 ^ 90) : n ≤ 2 ^ 100 := Nat.le_trans h (Nat.le_trans hm (Nat.pow_le_pow_right (by decide) (by decide)))
theorem sq80 {n m : Nat} (h1 : n ≤ 2 ^ 40) (h2 : m ≤ 2 ^ 40) : n * m ≤ 2 ^ 80 := by
  have := Nat.mul_le_mul h1 h2
  rwa [← Nat.pow_add] at this
theorem two80 {n m : Nat} (h1 : n ≤ 2 ^ 40) (h2 : m ≤ 2 ^ 40) : n * m + m * n ≤ 2 ^ 90 := by
  have a := sq80 h1 h2
  have b := sq80 h2 h1
  have c : 2 ^ 80 + 2 ^ 80 ≤ 2 ^ 90 := by decide
  omega
section
variable {P : Program} {w : World} {K :
      PySem.W.Frag} {mg : Str → Option Value} {base : Heap}
abbrev p_n : List Str := ["number"]
theorem sc_sign : FnScope p_n p_n (defScope sSign) := ⟨rfl, rfl, rfl, by decide +kernel, rfl, by decide +kernel, by decide +kernel⟩
def spSgn : Sp := fun vs H Q _ => ∃ n : Int, vs = [.int n] ∧ Q (.int (sgn n)) H
theorem ok_sign {f : Addr} {fd : FuncData} (F : Fun K "sign_of" "sign_of" sSign f fd) : FnOk P w K mg base CX0 1 f fd p_n spSgn := by
  refine F.ok sc_sign (fun vs H Q E h => ?_) (fun cdv A outer s H vs Q E hr h => ?_)
  · obtain ⟨n, rfl, _⟩ := h
    rfl
  · obtain ⟨n, rfl, q⟩ := h
    refine ⟨_, (pss_cons (ps_if (pt_cmpR op_gt (pv 0) pe_int (nomark _)) (pss_one (ps_ret pe_int)) pss_nil)
      (pss_one (ps_ret (pe_ifExp (pt_cmpR op_lt (pv 0) pe_int (nomark _)) (pe_un un_neg pe_int) pe_int)))), ?_⟩
    unfold sgn at q
    refine ⟨_, rfl, _, _,
          rfl, rfl, _, rfl, ?_⟩
    refine ite2 (fun c
          => ?_) (fun c => ?_)
    · rw [if_pos (of_decide_eq_true c)] at q
      exact q
    · have c' : ¬ 0 < n := fun z => c (decide_eq_true z)
      rw [if_neg c'] at q
      refine ⟨_, rfl, _, _,
            rfl, rfl, _, rfl, ?_⟩
      refine ite2 (fun d => ?_) (fun d => ?_)
      · rw [if_pos (of_decide_eq_true d)] at q
        exact ⟨_, rfl, q⟩
      · rw [if_neg fun z => d (decide_eq_true z)] at q
        exact q
abbrev n_ratio : List Str := ["n", "m", "divisor"]
abbrev p_ratio : List Str := ["n", "m"]
theorem sc_ratio : FnScope n_ratio p_ratio (defScope sRatio) := ⟨rfl, rfl, rfl, by decide +kernel, rfl, by decide +kernel, by decide +kernel⟩
theorem ok_ratio {f : Addr} {fd : FuncData} (F : Fun K "ratio" "ratio" sRatio f fd) (mG : mg "gcd" = some (.builtin "math.gcd")) : FnOk P w K mg base CX0 1 f fd p_ratio (spN2 K) := by
  refine F.ok sc_ratio (fun vs H Q E h => ?_) (fun cdv A outer s H vs Q E hr h => ?_)
  · obtain ⟨x, w, rfl, _⟩ := h
    rfl
  · obtain ⟨x, w, rfl, w0, bx, bw, q⟩ := h
    refine ⟨_, (pss_cons (ps_set (i := 2) sc_ratio.nd rfl (Or.inl rfl) (pe_callBfun cr_gcd (by rfl) mG (pa_cons (pv 0) (pa_cons (pv 1) pa_nil))))
      (pss_cons (ps_if (pt_cmpR op_lt (pv 1) pe_int (nomark _)) (pss_one (ps_set (i := 2) sc_ratio.nd rfl (Or.inl rfl) (pe_un un_neg (pv 2)))) pss_nil)
      (pss_one (ps_ret (pe_tup (pa_cons (pe_op op_fdivW (pv 0) (pv 2)) (pa_cons (pe_op op_fdivW (pv 1) (pv 2)) pa_nil))))))), ?_⟩
    refine ⟨_, rfl, _, rfl, x, w, rfl, ?_⟩
    refine ⟨_, rfl, _, _,
          rfl, rfl, _, rfl, ?_⟩
    refine ite2 (fun c => absurd (of_decide_eq_true c) (by omega)) (fun _ => ?_)
    have g0 := g2_pos (x := x) w0
    have gw : gAll [x, w] < 2 ^ 9000 := by
      rw [gAll_2]
      exact Nat.lt_of_le_of_lt (Nat.le_of_dvd (by omega) (Nat.gcd_dvd_right _ _)) (b100 bw)
    rw [gAll_2] at g0 gw
    have cd : CDivW x ((Nat.gcd x.natAbs w.natAbs : Nat) : Int) := wide_div (b := 9000) (by omega) (by simpa using gw) (by decide) (by decide)
    refine ⟨_, rfl, _, rfl, _, _, rfl, rfl, ⟨cd.1, cd.2⟩, _, rfl, _, rfl, _, _, rfl, rfl, ⟨cd.1, cd.2⟩, by show 2 ≤ sizeLine; decide, fun p hp => ?_⟩
    refine q _ _ (same_new hp) ⟨p, rfl, ?_⟩
    rw [thin_eq (g2_pos w0), gAll_2]
    exact SqT.of upd_same
abbrev n_place : List Str := ["x", "y", "w", "divisor"]
abbrev p_place : List Str := ["x", "y", "w"]
theorem sc_place : FnScope n_place p_place (defScope sPlace) := ⟨rfl, rfl, rfl, by decide +kernel, rfl, by decide +kernel, by decide +kernel⟩
theorem ok_place {f : Addr} {fd : FuncData} (F : Fun K "place" "place" sPlace f fd) (mG : mg "gcd" = some (.builtin "math.gcd")) : FnOk P w K mg base CX0 1 f fd p_place (spN3 K) := by
  refine F.ok sc_place (fun vs H Q E h => ?_) (fun cdv A outer s H vs Q E hr h => ?_)
  · obtain ⟨x, y, w, rfl, _⟩ := h
    rfl
  · obtain ⟨x, y, w, rfl, w0, bx, bby, bw, q⟩ := h
    refine ⟨_, (pss_cons (ps_set (i := 3) sc_place.nd rfl (Or.inl rfl) (pe_callBfun cr_gcd (by rfl) mG (pa_cons (pe_callBfun cr_gcd (by rfl) mG (pa_cons (pv 0) (pa_cons (pv 1) pa_nil))) (pa_cons (pv 2) pa_nil))))
      (pss_one (ps_ret (pe_tup (pa_cons (pe_op op_fdivW (pv 0) (pv 3)) (pa_cons (pe_op op_fdivW (pv 1) (pv 3)) (pa_cons (pe_op op_fdivW (pv 2) (pv 3)) pa_nil))))))), ?_⟩
    refine ⟨_, rfl, _, rfl, x, y, rfl, _, rfl, _, _, rfl, ?_⟩
    have g0 := g3_pos (x := x) (y := y) w0
    have gw : gAll [x, y, w] < 2 ^ 9000 := by
      rw [gAll_3]
      exact Nat.lt_of_le_of_lt (Nat.le_of_dvd (by omega) (Nat.gcd_dvd_right _ _)) (b100 bw)
    have eg : Nat.gcd (Int.natAbs ((Nat.gcd x.natAbs y.natAbs : Nat) : Int)) w.natAbs = gAll [x, y, w] := by rw [gAll_3, Int.natAbs_natCast]
    rw [eg]
    have cd : CDivW x ((gAll [x, y, w] : Nat) : Int) := wide_div (b := 9000) (by omega) (by simpa using gw) (by decide) (by decide)
    refine ⟨_, rfl, _, rfl, _, _, rfl, rfl, ⟨cd.1, cd.2⟩, _, rfl, _, rfl, _, _, rfl, rfl, ⟨cd.1, cd.2⟩, _, rfl, _, rfl, _, _, rfl, rfl, ⟨cd.1, cd.2⟩, by show 3 ≤ sizeLine; decide, fun p hp => ?_⟩
    refine q _ _ (same_new hp) ⟨p, rfl, ?_⟩
    rw [thin_eq (g3_pos w0)]
    exact SqT.of upd_same
theorem lt64 {x : Int} {n : Nat} (h : x.natAbs ≤ n) (hn : n ≤ 2 ^ 40) : -(2 ^ 64) < x ∧ x < 2 ^ 64 := by omega
abbrev n_psum : List Str := ["point", "other", "x", "y", "w", "u", "v", "z"]
abbrev p_po : List Str := ["point", "other"]
theorem sc_psum : FnScope n_psum p_po (defScope sPSum) := ⟨rfl, rfl, rfl, by decide +kernel, rfl, by decide +kernel, by decide +kernel⟩
theorem ok_psum {f : Addr} {fd : FuncData} (F : Fun K "place_sum" "place_sum" sPSum f fd) (H_place : Has P w K mg base "place" p_place 1 (spN3 K)) : FnOk P w K mg base CX0 2 f fd p_po (spP2 K sumL) := by
  refine F.ok sc_psum (fun vs H Q E h => ?_) (fun cdv A outer s H vs Q E hr h => ?_)
  · obtain ⟨_, _, _, _, _, _, _, _, _, _, _, _, rfl, _⟩ := h
    rfl
  · obtain ⟨va, vb, a, b, x, y, w, x', y', w', n, m, rfl, ⟨ta, rfl, sa⟩, ⟨tb, rfl, sb⟩, PA, PB, hn, hm, q⟩ := h
    have ea := PA.eq
    have eb := PB.eq
    subst ea eb
    refine ⟨_, (pss_cons (ps_asg (pv 0) (pg_tup rfl (pgs_cons (pg_name (i := 2) sc_psum.nd rfl (Or.inl rfl)) (pgs_cons (pg_name (i := 3) sc_psum.nd rfl (Or.inl rfl)) (pgs_cons (pg_name (i := 4) sc_psum.nd rfl (Or.inl rfl)) pgs_nil)))))
      (pss_cons (ps_asg (pv 1) (pg_tup rfl (pgs_cons (pg_name (i := 5) sc_psum.nd rfl (Or.inl rfl)) (pgs_cons (pg_name (i := 6) sc_psum.nd rfl (Or.inl rfl)) (pgs_cons (pg_name (i := 7) sc_psum.nd rfl (Or.inl rfl)) pgs_nil)))))
      (pss_one (ps_ret (pe_has H_place (hr.mono (by decide)) (by rfl) (pa_cons (pe_op op_add (pe_op op_mul (pv 2) (pv 7)) (pe_op op_mul (pv 5) (pv 4))) (pa_cons (pe_op op_add (pe_op op_mul (pv 3) (pv 7)) (pe_op op_mul (pv 6) (pv 4))) (pa_cons (pe_op op_mul (pv 4) (pv 7)) pa_nil)))))))), ?_⟩
    refine ⟨_, rfl, ta, _, rfl, sa, rfl, _, _, rfl, _, _, rfl, _, _, rfl, rfl, ?_⟩
    refine ⟨_, rfl, tb, _, rfl, sb, rfl, _, _, rfl, _, _, rfl, _, _, rfl, rfl, ?_⟩
    refine ⟨_, rfl, _, rfl, _, _, rfl, rfl, Or.inl (lt64 PA.bx hn), _, rfl, _, rfl, _, _, rfl, rfl, Or.inl (lt64 PB.bx hm), _, _, rfl, rfl, _, rfl, _, rfl, _, _, rfl, rfl, Or.inl (lt64 PA.bby hn), _, rfl, _, rfl, _, _, rfl, rfl, Or.inl (lt64 PB.bby hm), _, _, rfl, rfl, _, rfl, _, rfl, _, _, rfl, rfl, Or.inl (lt64 PA.bw hn), ?_⟩
    have h2 := two80 hn hm
    refine ⟨_, _, _, rfl, Int.mul_pos PA.pos PB.pos, le100 (addb (mulb PA.bx PB.bw) (mulb PB.bx PA.bw)) h2, le100 (addb (mulb PA.bby PB.bw) (mulb PB.bby PA.bw)) h2, le100 (mulb PA.bw PB.bw) (Nat.le_trans (Nat.le_add_right _ _) h2), fun p H' s' tp => q p H' s' tp⟩
theorem sc_wayto : FnScope n_psum p_po (defScope sWayTo) := ⟨rfl, rfl, rfl, by decide +kernel, rfl, by decide +kernel, by decide +kernel⟩
theorem ok_wayto {f : Addr} {fd : FuncData} (F : Fun K "way_to" "way_to" sWayTo f fd) (H_place : Has P w K mg base "place" p_place 1 (spN3 K)) : FnOk P w K mg base CX0 2 f fd p_po (spP2 K wayL) := by
  refine F.ok sc_wayto (fun vs H Q E h => ?_) (fun cdv A outer s H vs Q E hr h => ?_)
  · obtain ⟨_, _, _, _, _, _, _, _, _, _, _, _, rfl, _⟩ := h
    rfl
  · obtain ⟨va, vb, a, b, x, y, w, x', y', w', n, m, rfl, ⟨ta, rfl, sa⟩, ⟨tb, rfl, sb⟩, PA, PB, hn, hm, q⟩ := h
    have ea := PA.eq
    have eb := PB.eq
    subst ea eb
    refine ⟨_, (pss_cons (ps_asg (pv 0) (pg_tup rfl (pgs_cons (pg_name (i := 2) sc_wayto.nd rfl (Or.inl rfl)) (pgs_cons (pg_name (i := 3) sc_wayto.nd rfl (Or.inl rfl)) (pgs_cons (pg_name (i := 4) sc_wayto.nd rfl (Or.inl rfl)) pgs_nil)))))
      (pss_cons (ps_asg (pv 1) (pg_tup rfl (pgs_cons (pg_name (i := 5) sc_wayto.nd rfl (Or.inl rfl)) (pgs_cons (pg_name (i := 6) sc_wayto.nd rfl (Or.inl rfl)) (pgs_cons (pg_name (i := 7) sc_wayto.nd rfl (Or.inl rfl)) pgs_nil)))))
      (pss_one (ps_ret (pe_has H_place (hr.mono (by decide)) (by rfl) (pa_cons (pe_op op_sub (pe_op op_mul (pv 5) (pv 4)) (pe_op op_mul (pv 2) (pv 7))) (pa_cons (pe_op op_sub (pe_op op_mul (pv 6) (pv 4)) (pe_op op_mul (pv 3) (pv 7))) (pa_cons (pe_op op_mul (pv 4) (pv 7)) pa_nil)))))))), ?_⟩
    refine ⟨_, rfl, ta, _, rfl, sa, rfl, _, _, rfl, _, _, rfl, _, _, rfl, rfl, ?_⟩
    refine ⟨_, rfl, tb, _, rfl, sb, rfl, _, _, rfl, _, _, rfl, _, _, rfl, rfl, ?_⟩
    refine ⟨_, rfl, _, rfl, _, _, rfl, rfl, Or.inl (lt64 PB.bx hm), _, rfl, _, rfl, _, _, rfl, rfl, Or.inl (lt64 PA.bx hn), _, _, rfl, rfl, _, rfl, _, rfl, _, _, rfl, rfl, Or.inl (lt64 PB.bby hm), _, rfl, _, rfl, _, _, rfl, rfl, Or.inl (lt64 PA.bby hn), _, _, rfl, rfl, _, rfl, _, rfl, _, _, rfl, rfl, Or.inl (lt64 PA.bw hn), ?_⟩
    have h2 := two80 hm hn
    refine ⟨_, _, _, rfl, Int.mul_pos PA.pos PB.pos, le100 (subb (mulb PB.bx PA.bw) (mulb PA.bx PB.bw)) h2, le100 (subb (mulb PB.bby PA.bw) (mulb PA.bby PB.bw)) h2, le100 (mulb PA.bw PB.bw) (Nat.le_trans (Nat.le_add_left _ _) h2), fun p H' s' tp => q p H' s' tp⟩
abbrev n_ptimes : List Str := ["point", "fraction", "x", "y", "w", "n", "m"]
abbrev p_pf : List Str := ["point", "fraction"]
theorem sc_ptimes : FnScope n_ptimes p_pf (defScope sPTimes) := ⟨rfl, rfl, rfl, by decide +kernel, rfl, by decide +kernel, by decide +kernel⟩
theorem ok_ptimes {f : Addr} {fd : FuncData} (F : Fun K "place_times" "place_times" sPTimes f fd) (H_place : Has P w K mg base "place" p_place 1 (spN3 K)) : FnOk P w K mg base CX0 2 f fd p_pf (spPF K byL) := by
  refine F.ok sc_ptimes (fun vs H Q E h => ?_) (fun cdv A outer s H vs Q E hr h => ?_)
  · obtain ⟨_, _, _, _, _, _, _, _, _, _, _, rfl, _⟩ := h
    rfl
  · obtain ⟨va, vb, a, b, x, y, w, t, e, n, m, rfl, ⟨ta, rfl, sa⟩, ⟨tb, rfl, sb⟩, PA, PB, hn, hm, q⟩ := h
    have ea := PA.eq
    have eb := PB.eq
    subst ea eb
    refine ⟨_, (pss_cons (ps_asg (pv 0) (pg_tup rfl (pgs_cons (pg_name (i := 2) sc_ptimes.nd rfl (Or.inl rfl)) (pgs_cons (pg_name (i := 3) sc_ptimes.nd rfl (Or.inl rfl)) (pgs_cons (pg_name (i := 4) sc_ptimes.nd rfl (Or.inl rfl)) pgs_nil)))))
      (pss_cons (ps_asg (pv 1) (pg_tup rfl (pgs_cons (pg_name (i := 5) sc_ptimes.nd rfl (Or.inl rfl)) (pgs_cons (pg_name (i := 6) sc_ptimes.nd rfl (Or.inl rfl)) pgs_nil))))
      (pss_one (ps_ret (pe_has H_place (hr.mono (by decide)) (by rfl) (pa_cons (pe_op op_mul (pv 2) (pv 5)) (pa_cons (pe_op op_mul (pv 3) (pv 5)) (pa_cons (pe_op op_mul (pv 4) (pv 6)) pa_nil)))))))), ?_⟩
    refine ⟨_, rfl, ta, _, rfl, sa, rfl, _, _, rfl, _, _, rfl, _, _, rfl, rfl, ?_⟩
    refine ⟨_, rfl, tb, _, rfl, sb, rfl, _, _, rfl, _, _, rfl, rfl, ?_⟩
    refine ⟨_, rfl, _, rfl, _, _, rfl, rfl, Or.inl (lt64 PA.bx hn), _, rfl, _, rfl, _, _, rfl, rfl, Or.inl (lt64 PA.bby hn), _, rfl, _, rfl, _, _, rfl, rfl, Or.inl (lt64 PA.bw hn), ?_⟩
    have h2 : n * m ≤ 2 ^ 90 := Nat.le_trans (sq80 hn hm) (by decide)
    exact ⟨_, _, _, rfl, Int.mul_pos PA.pos PB.pos, le100 (mulb PA.bx PB.bt) h2, le100 (mulb PA.bby PB.bt) h2, le100 (mulb PA.bw PB.bb) h2, fun p H' s' tp => q p H' s' tp⟩
abbrev p_pof : List Str := ["point", "other", "fraction"]
theorem sc_pbetw : FnScope p_pof p_pof (defScope sPBetw) := ⟨rfl, rfl, rfl, by decide +kernel, rfl, by decide +kernel, by decide +kernel⟩
theorem ok_pbetw {f : Addr} {fd : FuncData} (F : Fun K "place_between" "place_between" sPBetw f fd) (H_place_sum : Has P w K mg base "place_sum" p_po 2 (spP2 K sumL)) (H_way_to : Has P w K mg base "way_to" p_po 2 (spP2 K wayL)) (H_place_times : Has P w K mg base "place_times" p_pf 2 (spPF K byL)) :
    FnOk P w K mg base CX0 3 f fd p_pof (spPPF K) := by
  refine F.ok sc_pbetw (fun vs H Q E h => ?_) (fun cdv A outer s H vs Q E hr h => ?_)
  · obtain ⟨_, _, _, _, _, _, _, _, _, _, _, _, _, _, rfl, _⟩ := h
    rfl
  · obtain ⟨va, vb, vc, a, b, c, x, y, w, x', y', w', t, e, rfl, ta, tb, tc, PA, PB, PC, q⟩ := h
    refine ⟨_, (pss_one (ps_ret (pe_has H_place_sum (hr.mono (by decide)) (by rfl) (pa_cons (pv 0) (pa_cons (pe_has H_place_times (hr.mono (by decide)) (by rfl) (pa_cons (pe_has H_way_to (hr.mono (by decide)) (by rfl) (pa_cons (pv 0) (pa_cons (pv 1) pa_nil))) (pa_cons (pv 2) pa_nil))) pa_nil))))), ?_⟩
    obtain ⟨_, p, q', r, _, _, _, _, PW⟩ := pt_way PA PB
    obtain ⟨_, p2, q2, r2, _, _, _, _, PX⟩ := pt_by PW PC
    exact ⟨_, rfl, _, rfl, _, rfl, _, _, a, b, _, _, _, _, _, _, _, _, rfl, ta, tb, PA, PB, by decide, by decide, fun p1 H1 s1 t1 => ⟨_, rfl, _, _, _, c, _, _, _, _, _, _, _, rfl, t1, tc.same s1, PW, PC, by decide, by decide, fun p2 H2 s2 t2 =>
      ⟨_, _, a, _, _, _, _, _, _, _, _, _, rfl, ta.same (s1.trans s2), t2, PA, PX, by decide, by decide, fun p3 H3 s3 t3 => q p3 H3 ((s1.trans s2).trans s3) t3⟩⟩⟩
end
end K7
namespace K7
open PySem L2 Ur
def spPP (K : PySem.W.Frag) (f : List Int → List Int → List Int) : Sp := spP2 K f
section
variable {P : Program} {w : World} {K :
      PySem.W.Frag} {mg : Str → Option Value} {base : Heap}
theorem sc_innerof : FnScope p_po p_po (defScope sInnerOf) := ⟨rfl, rfl, rfl, by decide +kernel, rfl, by decide +kernel, by decide +kernel⟩
theorem ok_innerof {f : Addr} {fd : FuncData} (F : Fun K "inner_of" "inner_of" sInnerOf f fd) (H_ratio : Has P w K mg base "ratio" p_ratio 1 (spN2 K)) : FnOk P w K mg base CX0 2 f fd p_po (spP2 K innL) := by
  refine F.ok sc_innerof (fun vs H Q E h => ?_) (fun cdv A outer s H vs Q E hr h => ?_)
  · obtain ⟨_, _, _, _, _, _, _, _, _, _, _, _, rfl, _⟩ := h
    rfl
  · obtain ⟨va, vb, a, b, x, y, w, x', y', w', n, m, rfl, ⟨ta, rfl, sa⟩, ⟨tb, rfl, sb⟩, PA, PB, hn, hm, q⟩ := h
    have ea := PA.eq
    have eb := PB.eq
    subst ea eb
    refine ⟨_, (pss_one (ps_ret (pe_has H_ratio (hr.mono (by decide)) (by rfl) (pa_cons (pe_op op_add (pe_op op_mul (pe_ix (r := rIxT K) ix_tup (pv 0) pe_int (fun _ _ => rfl)) (pe_ix (r := rIxT K) ix_tup (pv 1) pe_int (fun _ _ => rfl))) (pe_op op_mul (pe_ix (r := rIxT K) ix_tup (pv 0) pe_int (fun _ _ => rfl)) (pe_ix (r := rIxT K) ix_tup (pv 1) pe_int (fun _ _ => rfl)))) (pa_cons (pe_op op_mul (pe_ix (r := rIxT K) ix_tup (pv 0) pe_int (fun _ _ => rfl)) (pe_ix (r := rIxT K) ix_tup (pv 1) pe_int (fun _ _ => rfl))) pa_nil))))), ?_⟩
    refine ⟨_, rfl, ta, _, 0, _, rfl, rfl, sa, rfl, _, rfl, tb, _, 0, _, rfl, rfl, sb, rfl, _, _, rfl, rfl, Or.inl (lt64 PA.bx hn), _, rfl, ta, _, 1, _, rfl, rfl, sa, rfl, _, rfl, tb, _, 1, _, rfl, rfl, sb, rfl, _, _, rfl, rfl, Or.inl (lt64 PA.bby hn), _, _, rfl, rfl, _, rfl, ta, _, 2, _, rfl, rfl, sa, rfl, _, rfl, tb, _, 2, _, rfl, rfl, sb, rfl, _, _, rfl, rfl, Or.inl (lt64 PA.bw hn), ?_⟩
    have h2 := two80 hn hm
    have h3 := sq80 hn hm
    exact ⟨_, _, rfl, Int.mul_pos PA.pos PB.pos, le100 (addb (mulb PA.bx PB.bx) (mulb PA.bby PB.bby)) (Nat.le_trans (Nat.add_le_add h3 h3) (by decide)), le100 (mulb PA.bw PB.bw) (Nat.le_trans h3 (by decide)), fun p H' s' tp => q p H' s' tp⟩
theorem sc_crossof : FnScope p_po p_po (defScope sCrossOf) := ⟨rfl, rfl, rfl, by decide +kernel, rfl, by decide +kernel, by decide +kernel⟩
theorem ok_crossof {f : Addr} {fd : FuncData} (F : Fun K "cross_of" "cross_of" sCrossOf f fd) (H_ratio : Has P w K mg base "ratio" p_ratio 1 (spN2 K)) : FnOk P w K mg base CX0 2 f fd p_po (spP2 K crsL) := by
  refine F.ok sc_crossof (fun vs H Q E h => ?_) (fun cdv A outer s H vs Q E hr h => ?_)
  · obtain ⟨_, _, _, _, _, _, _, _, _, _, _, _, rfl, _⟩ := h
    rfl
  · obtain ⟨va, vb, a, b, x, y, w, x', y', w', n, m, rfl, ⟨ta, rfl, sa⟩, ⟨tb, rfl, sb⟩, PA, PB, hn, hm, q⟩ := h
    have ea := PA.eq
    have eb := PB.eq
    subst ea eb
    refine ⟨_, (pss_one (ps_ret (pe_has H_ratio (hr.mono (by decide)) (by rfl) (pa_cons (pe_op op_sub (pe_op op_mul (pe_ix (r := rIxT K) ix_tup (pv 0) pe_int (fun _ _ => rfl)) (pe_ix (r := rIxT K) ix_tup (pv 1) pe_int (fun _ _ => rfl))) (pe_op op_mul (pe_ix (r := rIxT K) ix_tup (pv 0) pe_int (fun _ _ => rfl)) (pe_ix (r := rIxT K) ix_tup (pv 1) pe_int (fun _ _ => rfl)))) (pa_cons (pe_op op_mul (pe_ix (r := rIxT K) ix_tup (pv 0) pe_int (fun _ _ => rfl)) (pe_ix (r := rIxT K) ix_tup (pv 1) pe_int (fun _ _ => rfl))) pa_nil))))), ?_⟩
    refine ⟨_, rfl, ta, _, 0, _, rfl, rfl, sa, rfl, _, rfl, tb, _, 1, _, rfl, rfl, sb, rfl, _, _, rfl, rfl, Or.inl (lt64 PA.bx hn), _, rfl, ta, _, 1, _, rfl, rfl, sa, rfl, _, rfl, tb, _, 0, _, rfl, rfl, sb, rfl, _, _, rfl, rfl, Or.inl (lt64 PA.bby hn), _, _, rfl, rfl, _, rfl, ta, _, 2, _, rfl, rfl, sa, rfl, _, rfl, tb, _, 2, _, rfl, rfl, sb, rfl, _, _, rfl, rfl, Or.inl (lt64 PA.bw hn), ?_⟩
    have h3 := sq80 hn hm
    exact ⟨_, _, rfl, Int.mul_pos PA.pos PB.pos, le100 (subb (mulb PA.bx PB.bby) (mulb PA.bby PB.bx)) (Nat.le_trans (Nat.add_le_add h3 h3) (by decide)), le100 (mulb PA.bw PB.bw) (Nat.le_trans h3 (by decide)), fun p H' s' tp => q p H' s' tp⟩
abbrev p_p : List Str := ["point"]
theorem sc_quarterof : FnScope p_p p_p (defScope sQuarterOf) := ⟨rfl, rfl, rfl, by decide +kernel, rfl, by decide +kernel, by decide +kernel⟩
theorem ok_quarterof {f : Addr} {fd : FuncData} (F : Fun K "quarter_of" "quarter_of" sQuarterOf f fd) : FnOk P w K mg base CX0 1 f fd p_p (spP1 K qtrL) := by
  refine F.ok sc_quarterof (fun vs H Q E h => ?_) (fun cdv A outer s H vs Q E hr h => ?_)
  · obtain ⟨_, _, _, _, _, _, rfl, _⟩ := h
    rfl
  · obtain ⟨va, a, x, y, w, n, rfl, ⟨ta, rfl, sa⟩, PA, hn, q⟩ := h
    have ea := PA.eq
    subst ea
    refine ⟨_, (pss_one (ps_ret (pe_tup (pa_cons (pe_un un_neg (pe_ix (r := rIxT K) ix_tup (pv 0) pe_int (fun _ _ => rfl))) (pa_cons (pe_ix (r := rIxT K) ix_tup (pv 0) pe_int (fun _ _ => rfl)) (pa_cons (pe_ix (r := rIxT K) ix_tup (pv 0) pe_int (fun _ _ => rfl)) pa_nil)))))), ?_⟩
    refine ⟨_, rfl, ta, _, 1, _, rfl, rfl, sa, rfl, _, rfl, _, rfl, ta, _, 0, _, rfl, rfl, sa, rfl, _, rfl, ta, _, 2, _, rfl, rfl, sa, rfl, by show 3 ≤ sizeLine; decide, fun p hp => ?_⟩
    exact q _ _ (same_new hp) ⟨p, rfl, SqT.of upd_same⟩
/-! ### sides -/
def lineL (x y w u v z : Int) : List Int := [v * w - y * z, x * z - u * w, x * v - u * y]
def spLine (K : PySem.W.Frag) : Sp := fun vs H Q _ => ∃ (v v' : V) (x y w x' y' w' : Int) (n m : Nat), vs = [v, v'] ∧ Tp K H v [x, y, w] ∧ Tp K H v' [x', y', w'] ∧ PtL n [x, y, w] x y w ∧ PtL m [x', y', w'] x' y' w' ∧ n ≤ 2 ^ 40 ∧ m ≤ 2 ^ 40 ∧ ∀ p H', Same H H' → Tp K H' p (lineL x y w x' y' w') → Q p H'
theorem sc_line : FnScope n_psum p_po (defScope sLine) := ⟨rfl, rfl, rfl, by decide +kernel, rfl, by decide +kernel, by decide +kernel⟩
theorem ok_line {f : Addr} {fd : FuncData} (F : Fun K "line_through_both" "line_through_both" sLine f fd) : FnOk P w K mg base CX0 1 f fd p_po (spLine K) := by
  refine F.ok sc_line (fun vs H Q E h => ?_) (fun cdv A outer s H vs Q E hr h => ?_)
  · obtain ⟨_, _, _, _, _, _, _, _, _, _, rfl, _⟩ := h
    rfl
  · obtain ⟨va, vb, x, y, w, x', y', w', n, m, rfl, ⟨ta, rfl, sa⟩, ⟨tb, rfl, sb⟩, PA, PB, hn, hm, q⟩ := h
    refine ⟨_, (pss_cons (ps_asg (pv 0) (pg_tup rfl (pgs_cons (pg_name (i := 2) sc_line.nd rfl (Or.inl rfl)) (pgs_cons (pg_name (i := 3) sc_line.nd rfl (Or.inl rfl)) (pgs_cons (pg_name (i := 4) sc_line.nd rfl (Or.inl rfl)) pgs_nil)))))
      (pss_cons (ps_asg (pv 1) (pg_tup rfl (pgs_cons (pg_name (i := 5) sc_line.nd rfl (Or.inl rfl)) (pgs_cons (pg_name (i := 6) sc_line.nd rfl (Or.inl rfl)) (pgs_cons (pg_name (i := 7) sc_line.nd rfl (Or.inl rfl)) pgs_nil)))))
      (pss_one (ps_ret (pe_tup (pa_cons (pe_op op_sub (pe_op op_mul (pv 6) (pv 4)) (pe_op op_mul (pv 3) (pv 7))) (pa_cons (pe_op op_sub (pe_op op_mul (pv 2) (pv 7)) (pe_op op_mul (pv 5) (pv 4))) (pa_cons (pe_op op_sub (pe_op op_mul (pv 2) (pv 6)) (pe_op op_mul (pv 5) (pv 3))) pa_nil)))))))), ?_⟩
    refine ⟨_, rfl, ta, _, rfl, sa, rfl, _, _, rfl, _, _, rfl, _, _, rfl, rfl, ?_⟩
    refine ⟨_, rfl, tb, _, rfl, sb, rfl, _, _, rfl, _, _, rfl, _, _, rfl, rfl, ?_⟩
    refine ⟨_, rfl, _, rfl, _, _, rfl, rfl, Or.inl (lt64 PB.bby hm), _, rfl, _, rfl, _, _, rfl, rfl, Or.inl (lt64 PA.bby hn), _, _, rfl, rfl, _, rfl, _, rfl, _, _, rfl, rfl, Or.inl (lt64 PA.bx hn), _, rfl, _, rfl, _, _, rfl, rfl, Or.inl (lt64 PB.bx hm), _, _, rfl, rfl, _, rfl, _, rfl, _, _, rfl, rfl, Or.inl (lt64 PA.bx hn), _, rfl, _, rfl, _, _, rfl, rfl, Or.inl (lt64 PB.bx hm), _, _, rfl, rfl, by show 3 ≤ sizeLine; decide, fun p hp => ?_⟩
    exact q _ _ (same_new hp) ⟨p, rfl, SqT.of upd_same⟩
abbrev n_sideof : List Str := ["point", "other", "third", "a", "b", "h"]
abbrev p_pot : List Str := ["point", "other", "third"]
theorem sc_sideof : FnScope n_sideof p_pot (defScope sSideOf) := ⟨rfl, rfl, rfl, by decide +kernel, rfl, by decide +kernel, by decide +kernel⟩
theorem le40 {n : Nat} (h : n ≤ 2 ^ 30) : n ≤ 2 ^ 40 := Nat.le_trans h (by decide)
theorem ok_sideof {f : Addr} {fd : FuncData} (F : Fun K "side_of" "side_of" sSideOf f fd) (H_line_through_both : Has P w K mg base "line_through_both" p_po 1 (spLine K)) (H_sign_of : Has P w K mg base "sign_of" p_n 1 spSgn) : FnOk P w K mg base CX0 2 f fd p_pot (spSide K) := by
  refine F.ok sc_sideof (fun vs H Q E h => ?_) (fun cdv A outer s H vs Q E hr h => ?_)
  · obtain ⟨_, _, _, _, _, _, _, _, _, _, _, _, _, _, _, _, _, _, rfl, _⟩ := h
    rfl
  · obtain ⟨va, vb, vc, a, b, c, x, y, w, x', y', w', p, q', r, n, m, l, rfl, tA, tB, ⟨tc, rfl, sc⟩, PA, PB, PC, hn, hm, hl, q⟩ := h
    have ea := PA.eq
    have eb := PB.eq
    have ec := PC.eq
    subst ea eb ec
    refine ⟨_, (pss_cons (ps_asg (pe_has H_line_through_both (hr.mono (by decide)) (by rfl) (pa_cons (pv 0) (pa_cons (pv 1) pa_nil))) (pg_tup rfl (pgs_cons (pg_name (i := 3) sc_sideof.nd rfl (Or.inl rfl)) (pgs_cons (pg_name (i := 4) sc_sideof.nd rfl (Or.inl rfl)) (pgs_cons (pg_name (i := 5) sc_sideof.nd rfl (Or.inl rfl)) pgs_nil)))))
      (pss_one (ps_ret (pe_has H_sign_of (hr.mono (by decide)) (by rfl) (pa_cons (pe_op op_sub (pe_op op_sub (pe_op op_mul (pv 5) (pe_ix (r := rIxT K) ix_tup (pv 2) pe_int (fun _ _ => rfl))) (pe_op op_mul (pv 3) (pe_ix (r := rIxT K) ix_tup (pv 2) pe_int (fun _ _ => rfl)))) (pe_op op_mul (pv 4) (pe_ix (r := rIxT K) ix_tup (pv 2) pe_int (fun _ _ => rfl)))) pa_nil))))), ?_⟩
    refine ⟨_, rfl, _, rfl, _, _, x, y, w, x', y', w', n, m, rfl, tA, tB, PA, PB, le40 hn, le40 hm, fun p1 H1 s1 t1 => ?_⟩
    obtain ⟨tl, rfl, sl⟩ := t1
    have sc1 := same_sqT s1 sc
    refine ⟨tl, _, rfl, sl, rfl, _, _, rfl, _, _, rfl, _, _, rfl, rfl, ?_⟩
    refine ⟨_, rfl, _, rfl, tc, _, 2, _, rfl, rfl, sc1, rfl, _, _, rfl, rfl, Or.inr (lt64 PC.bw (le40 hl)), _, rfl, _, rfl, tc, _, 0, _, rfl, rfl, sc1, rfl, _, _, rfl, rfl, Or.inr (lt64 PC.bx (le40 hl)), _, _, rfl, rfl, _, rfl, _, rfl, tc, _, 1, _, rfl, rfl, sc1, rfl, _, _, rfl, rfl, Or.inr (lt64 PC.bby (le40 hl)), _, _, rfl, rfl, _, rfl, ?_⟩
    exact q H1 s1
/-! ### checks -/
def spChkP (K : PySem.W.Frag) : Sp := fun vs H Q _ => ∃ (v : V) (a : List Int) (x y w : Int) (n : Nat), vs = [v] ∧ Tp K H v a ∧ PtL n a x y w ∧ n ≤ 2 ^ 40 ∧ ∀ H', Same H H' → Q .non H'
def spChkF (K : PySem.W.Frag) : Sp := fun vs H Q _ => ∃ (v : V) (a : List Int) (t e : Int) (n : Nat), vs = [v] ∧ Tp K H v a ∧ FrL n a t e ∧ n ≤ 2 ^ 40 ∧ ∀ H', Same H H' → Q .non H'
theorem arg_ints {K : PySem.W.Frag} {H : Hp} {t : Addr} {ns : List Int} (h : SqT K H t (ns.map V.int)) (hl : ns.length ≤ 1000) (hb : ∀ n ∈ ns, n.natAbs ≤ 2 ^ 40) : Arg K H (.ref t) .tup (ns.map V.int) := by
  refine ⟨tup_kd h, fun _ => ⟨t, rfl, h, by simpa using hl, fun y hy => ?_, fun i hi => ?_⟩⟩
  · obtain ⟨n, _, rfl⟩ := List.mem_map.mp hy
    exact ⟨⟨.int, .base (.int n)⟩, .int n, .int n, rfl, Nat.zero_le _⟩
  · obtain ⟨n, hn, e⟩ := List.mem_map.mp hi
    cases e
    exact Nat.lt_of_le_of_lt (hb _ hn) (Nat.pow_lt_pow_right (by decide) (by decide))
end
end K7

namespace K7
open PySem L2 Ur
/-! ### the two errors -/
def inner (st : Stmt) : Stmt := match st with
  | .ClassDef _ _ _ b _ _ _ _ _ _ _ => b.getD 0 (.Pass ⟨0, 0, 0, 0⟩)
  | _ => st
abbrev sErrF : Stmt := inner (top 3)
abbrev sErrP : Stmt := inner (top 4)
abbrev n_init : List Str := ["self", "given"]
theorem sc_initF : FnScope n_init n_init (defScope sErrF) := ⟨rfl, rfl, rfl, by decide +kernel, rfl, by decide +kernel, by decide +kernel⟩
theorem sc_initP : FnScope n_init n_init (defScope sErrP) := ⟨rfl, rfl, rfl, by decide +kernel, rfl, by decide +kernel, by decide +kernel⟩
/-- what is known of an error's class at C, made by the def at fI -/
structure Err (K : PySem.W.Frag) (mg : Str → Option Value) (x qual : Str) (st : Stmt) (C fI : Addr) (fd : FuncData) : Prop where
  oex : OexC K C
  iC : PySem.W.findIn K (.ref C) "__init__" = some (some (.ref fI))
  tI : PySem.W.typeIn K (.ref fI) = some (.type "function")
  fn : Fun K "__init__" qual st fI fd
  gm : mg x = some (.ref C)
  xf : XfC K C
  noG : PySem.W.findIn K (.ref C) "given" = some none
  bI : Binds K fd n_init []
def spInit (K : PySem.W.Frag) (C : Addr) : Sp := fun vs H Q _ => ∃ (a : Addr) (v : V), vs = [.ref a, v] ∧ OexC K C ∧ PySem.W.findIn K (.ref C) "given" = some none ∧ H a = some (exo a C none) ∧ ∀ d, H d = none → d ≠ a → Q .non (upd (upd H d (exd d [("given", v)])) a (exo a C (some d)))
section
variable {P : Program} {w : World} {K :
      PySem.W.Frag} {mg : Str → Option Value} {base : Heap}
theorem ok_initF {C f : Addr} {qual : Str} {fd : FuncData} (F : Fun K "__init__" qual sErrF f fd) : FnOk P w K mg base CX0 1 f fd n_init (spInit K C) := by
  refine F.ok sc_initF (fun vs H Q E h => ?_) (fun cdv A outer s H vs Q E hr h => ?_)
  · obtain ⟨_, _, rfl, _⟩ := h
    rfl
  · obtain ⟨a, v, rfl, T, ng, ha, q⟩ := h
    refine ⟨_, (pss_one (ps_ost (pv 0) (pv 1))), ?_⟩
    exact ⟨_, rfl, _, rfl, a, C, rfl, T, ng, Or.inl ⟨ha, fun d hd hne => q d hd hne⟩⟩
theorem ok_initP {C f : Addr} {qual : Str} {fd : FuncData} (F : Fun K "__init__" qual sErrP f fd) : FnOk P w K mg base CX0 1 f fd n_init (spInit K C) := by
  refine F.ok sc_initP (fun vs H Q E h => ?_) (fun cdv A outer s H vs Q E hr h => ?_)
  · obtain ⟨_, _, rfl, _⟩ := h
    rfl
  · obtain ⟨a, v, rfl, T, ng, ha, q⟩ := h
    refine ⟨_, (pss_one (ps_ost (pv 0) (pv 1))), ?_⟩
    exact ⟨_, rfl, _, rfl, a, C, rfl, T, ng, Or.inl ⟨ha, fun d hd hne => q d hd hne⟩⟩
theorem made_heap {H : Hp} {a d C : Addr} {v : V} (ha : H a = none) (hd : H d = none) (hne : d ≠ a) : upd (L2.del (upd (upd (upd H a (exo a C none)) d (exd d [("given", v)])) a (exo a C (some d))) a) d (.xd [("given", v)]) = upd H d (.xd [("given", v)]) := by
  funext b
  by_cases h1 : b = d
  · subst h1
    rw [upd_same, upd_same]
  · rw [upd_ne h1, upd_ne h1]
    by_cases h2 : b = a
    · subst h2
      rw [del_same, ha]
    · rw [del_ne h2, upd_ne h2, upd_ne h1, upd_ne h2]
/-! ### the checks: they let, or raise -/
def spChkE (K : PySem.W.Frag) (C : Addr) (g : List V → Bool) : Sp := fun vs H Q E => ∃ (x : V) (k : Kd) (xs : List V), vs = [x] ∧ Arg K H x k xs ∧ ((k == .tup && g xs) = true → ∀ H', Same H H' → Q .non H') ∧
  ((k == .tup && g xs) = false → ∀ (d : Addr) (H' : Hp), Same H H' → H' d = some (.xd [("given", x)]) → E (.ref C) (some d) H')
abbrev sChkP : Stmt := top 27
abbrev sChkF : Stmt := top 26
theorem sc_chkP : FnScope n_value n_value (defScope sChkP) := ⟨rfl, rfl, rfl, by decide +kernel, rfl, by decide +kernel, by decide +kernel⟩
theorem sc_chkF : FnScope n_value n_value (defScope sChkF) := ⟨rfl, rfl, rfl, by decide +kernel, rfl, by decide +kernel, by decide +kernel⟩
theorem ok_chkP {f C fI : Addr} {fd fdI : FuncData} {qual : Str} (F : Fun K "check_point" "check_point" sChkP f fd) (EP : Err K mg "InvalidPoint" qual sErrP C fI fdI) (H_point_fits : Has P w K mg base "point_fits" n_value 3 (spTold K isPt)) : FnOk P w K mg base (L2.CX P w) 4 f fd n_value (spChkE K C isPt) := by
  refine F.okX sc_chkP (fun vs H Q E h => ?_) (fun cdv A outer s H vs Q E hr h => ?_)
  · obtain ⟨_, _, _, rfl, _⟩ := h
    rfl
  · obtain ⟨x, k, xs, rfl, A1, q, e⟩ := h
    refine ⟨_, (pss_one (ps_if (pt_not (pt_val (pe_has H_point_fits (hr.mono (by decide)) (by rfl) (pa_cons (pv 0) pa_nil)))) (pss_one (ps_raise rfl (takes_of rfl rfl rfl rfl) (pmk_oex EP.oex EP.iC EP.tI (ok_initP (P := P) (w := w) (mg := mg) (base := base) (C := C) EP.fn) (hr.mono (by decide)) EP.bI .nil pass0 (by rfl) EP.gm (pa_cons (pv 0) pa_nil)))) pss_nil)), ?_⟩
    refine ⟨_, rfl, x, k, xs, rfl, A1, fun H1 s1 => ⟨_, rfl, ?_⟩⟩
    cases hc : (k == Kd.tup && isPt xs) with
    | true =>
      rw [if_neg (by simp)]
      exact q hc H1 s1
    | false =>
      rw [if_pos (by rfl)]
      refine ⟨_, rfl, by show 1 ≤ 1000; decide, fun a ha => ⟨a, x, rfl, EP.oex, EP.noG, upd_same, fun d hd hne => ⟨rfl, d, _, upd_same, by rw [upd_ne hne, upd_same], ?_, ?_⟩⟩⟩
      · rw [upd_ne hne] at hd
        exact hd
      · rw [upd_ne hne] at hd
        rw [made_heap ha hd hne]
        exact e hc d _ (s1.trans (same_new hd)) upd_same
theorem ok_chkF {f C fI : Addr} {fd fdI : FuncData} {qual : Str} (F : Fun K "check_fraction" "check_fraction" sChkF f fd) (EP : Err K mg "InvalidFraction" qual sErrF C fI fdI) (H_fraction_fits : Has P w K mg base "fraction_fits" n_value 3 (spTold K isFr)) : FnOk P w K mg base (L2.CX P w) 4 f fd n_value (spChkE K C isFr) := by
  refine F.okX sc_chkF (fun vs H Q E h => ?_) (fun cdv A outer s H vs Q E hr h => ?_)
  · obtain ⟨_, _, _, rfl, _⟩ := h
    rfl
  · obtain ⟨x, k, xs, rfl, A1, q, e⟩ := h
    refine ⟨_, (pss_one (ps_if (pt_not (pt_val (pe_has H_fraction_fits (hr.mono (by decide)) (by rfl) (pa_cons (pv 0) pa_nil)))) (pss_one (ps_raise rfl (takes_of rfl rfl rfl rfl) (pmk_oex EP.oex EP.iC EP.tI (ok_initF (P := P) (w := w) (mg := mg) (base := base) (C := C) EP.fn) (hr.mono (by decide)) EP.bI .nil pass0 (by rfl) EP.gm (pa_cons (pv 0) pa_nil)))) pss_nil)), ?_⟩
    refine ⟨_, rfl, x, k, xs, rfl, A1, fun H1 s1 => ⟨_, rfl, ?_⟩⟩
    cases hc : (k == Kd.tup && isFr xs) with
    | true =>
      rw [if_neg (by simp)]
      exact q hc H1 s1
    | false =>
      rw [if_pos (by rfl)]
      refine ⟨_, rfl, by show 1 ≤ 1000; decide, fun a ha => ⟨a, x, rfl, EP.oex, EP.noG, upd_same, fun d hd hne => ⟨rfl, d, _, upd_same, by rw [upd_ne hne, upd_same], ?_, ?_⟩⟩⟩
      · rw [upd_ne hne] at hd
        exact hd
      · rw [upd_ne hne] at hd
        rw [made_heap ha hd hne]
        exact e hc d _ (s1.trans (same_new hd)) upd_same
end
end K7

namespace K7
open PySem L2 Ur
def HasX (P : Program) (w : World) (K : PySem.W.Frag) (mg : Str → Option Value) (base : Heap) (x : Str) (ps : List Str) (k : Nat) (sp : Sp) : Prop :=
  ∃ f fd, FnOk P w K mg base (L2.CX P w) k f fd ps sp ∧ mg x = some (.ref f) ∧ PySem.W.keepIn K (.ref f) = true ∧ Binds K fd ps []
theorem pe_hasX {X : Cx} {x : Str} {p pos : Pos} {e : Expr} {es : List Expr} {t : TA} {ps : List Str} {k : Nat} {sp : Sp} {W : WX} {E : XK} (h : HasX X.prog X.w X.K X.mg X.base x ps k sp) (hr : Room k X.A) (tk : Takes X W) (hW : ∀ cls d σ H, E cls d H → W cls d σ H) (hg : Gl X x) (ha : PA X (e :: es) t) (hdb : (x == ("__debug__" : Str)) = false := by decide)
    (he : starEach (e :: es) X.env = (false, eval e X.env) :: starEach es X.env :=
          by rfl) (hpl : (backTo pos (starEach es X.env)).any (·.1) = false := by rfl) :
    PE X (.Call (.Name x p) (e :: es) [] pos) (tCall sp [] E t) := by
  obtain ⟨f, fd, G, m, kp, b⟩ := h
  exact pe_call G hr hg m kp b .nil (passes_call tk hW) ha hdb he hpl
/-- a value that is told to be small where it is a tuple of numbers -/
structure Vo (K : PySem.W.Frag) (H : Hp) (x : V) (k : Kd) (xs : List V) : Prop where
  arg : Arg K H x k xs
  sm : k = .tup → ∀ i, V.int i ∈ xs → i.natAbs ≤ 100
theorem Vo.same {K : PySem.W.Frag} {H H' : Hp} {x : V} {k : Kd} {xs : List V} (h : Vo K H x k xs) (s : Same H H') : Vo K H' x k xs := ⟨h.arg.same s, h.sm⟩
theorem Vo.pt {K : PySem.W.Frag} {H : Hp} {x : V} {k : Kd} {xs : List V} (h : Vo K H x k xs) (hb : (k == Kd.tup && isPt xs) = true) : ∃ a p q r, Tp K H x a ∧ PtL 100 a p q r := by
  rw [Bool.and_eq_true] at hb
  obtain ⟨h1, h2⟩ := hb
  have hk : k = .tup := by simpa using h1
  obtain ⟨t, rfl, hS, _⟩ := h.arg.its hk
  have sm := h.sm hk
  match xs, h2 with
  | [.int p, .int q, .int r], h2 =>
    have h3 : (decide (0 < r) && decide (Nat.gcd (Nat.gcd p.natAbs q.natAbs) r.natAbs = 1)) = true := h2
    rw [Bool.and_eq_true] at h3
    exact ⟨[p, q, r], p, q, r, ⟨t, rfl, hS⟩, rfl, of_decide_eq_true h3.1, of_decide_eq_true h3.2, sm p (by simp), sm q (by simp), sm r (by simp)⟩
theorem Vo.fr {K : PySem.W.Frag} {H : Hp} {x : V} {k : Kd} {xs : List V} (h : Vo K H x k xs) (hb : (k == Kd.tup && isFr xs) = true) : ∃ a p q, Tp K H x a ∧ FrL 100 a p q := by
  rw [Bool.and_eq_true] at hb
  obtain ⟨h1, h2⟩ := hb
  have hk : k = .tup := by simpa using h1
  obtain ⟨t, rfl, hS, _⟩ := h.arg.its hk
  have sm := h.sm hk
  match xs, h2 with
  | [.int p, .int q], h2 =>
    have h3 : (decide (0 < q) && decide (Nat.gcd p.natAbs q.natAbs = 1)) = true := h2
    rw [Bool.and_eq_true] at h3
    exact ⟨[p, q], p, q, ⟨t, rfl, hS⟩, rfl, of_decide_eq_true h3.1, of_decide_eq_true h3.2, sm p (by simp), sm q (by simp)⟩
/-- what becomes of a call: the first wrong argument is told, or it is let -/
def Fate (H : Hp) (Q : VK) (E : XK) : List (Addr × V × Bool) → Prop
  | [] => ∀ p H', Same H H' → Q p H'
  | (C, x, b) :: r => (b = true → Fate H Q E r) ∧ (b = false → ∀ (d : Addr) (H' : Hp), Same H H' → H' d = some (.xd [("given", x)]) → E (.ref C) (some d) H')
def spEPP (K : PySem.W.Frag) (CP CF : Addr) : Sp := fun vs H Q E => ∃ (x0 : V) (k0 : Kd) (xs0 : List V) (x1 : V) (k1 : Kd) (xs1 : List V), vs = [x0, x1] ∧ Vo K H x0 k0 xs0 ∧ Vo K H x1 k1 xs1 ∧ Fate H Q E [(CP, x0, k0 == .tup && isPt xs0), (CP, x1, k1 == .tup && isPt xs1)]
def spEPF (K : PySem.W.Frag) (CP CF : Addr) : Sp := fun vs H Q E => ∃ (x0 : V) (k0 : Kd) (xs0 : List V) (x1 : V) (k1 : Kd) (xs1 : List V), vs = [x0, x1] ∧ Vo K H x0 k0 xs0 ∧ Vo K H x1 k1 xs1 ∧ Fate H Q E [(CP, x0, k0 == .tup && isPt xs0), (CF, x1, k1 == .tup && isFr xs1)]
def spEPPF (K : PySem.W.Frag) (CP CF : Addr) : Sp := fun vs H Q E => ∃ (x0 : V) (k0 : Kd) (xs0 : List V) (x1 : V) (k1 : Kd) (xs1 : List V) (x2 : V) (k2 : Kd) (xs2 : List V), vs = [x0, x1, x2] ∧ Vo K H x0 k0 xs0 ∧ Vo K H x1 k1 xs1 ∧ Vo K H x2 k2 xs2 ∧ Fate H Q E [(CP, x0, k0 == .tup && isPt xs0), (CP, x1, k1 == .tup && isPt xs1), (CF, x2, k2 == .tup && isFr xs2)]
def spEP (K : PySem.W.Frag) (CP CF : Addr) : Sp := fun vs H Q E => ∃ (x0 : V) (k0 : Kd) (xs0 : List V), vs = [x0] ∧ Vo K H x0 k0 xs0 ∧ Fate H Q E [(CP, x0, k0 == .tup && isPt xs0)]
def spEPPP (K : PySem.W.Frag) (CP CF : Addr) : Sp := fun vs H Q E => ∃ (x0 : V) (k0 : Kd) (xs0 : List V) (x1 : V) (k1 : Kd) (xs1 : List V) (x2 : V) (k2 : Kd) (xs2 : List V), vs = [x0, x1, x2] ∧ Vo K H x0 k0 xs0 ∧ Vo K H x1 k1 xs1 ∧ Vo K H x2 k2 xs2 ∧ Fate H Q E [(CP, x0, k0 == .tup && isPt xs0), (CP, x1, k1 == .tup && isPt xs1), (CP, x2, k2 == .tup && isPt xs2)]
section
variable {P : Program} {w : World} {K :
      PySem.W.Frag} {mg : Str → Option Value} {base : Heap}
abbrev sPlus : Stmt := top 29
theorem ok_m_plus {f CP CF : Addr} {fd : FuncData} (F : Fun K "plus" "plus" sPlus f fd) (HX_check_point : HasX P w K mg base "check_point" n_value 4 (spChkE K CP isPt)) (H_place_sum : Has P w K mg base "place_sum" p_po 2 (spP2 K sumL)) : FnOk P w K mg base (L2.CX P w) 5 f fd p_po (spEPP K CP CF) := by
  have sc : FnScope p_po p_po (defScope sPlus) := ⟨rfl, rfl, rfl, by decide +kernel, rfl, by decide +kernel, by decide +kernel⟩
  refine F.okX sc (fun vs H Q E h => ?_) (fun cdv A outer s H vs Q E hr h => ?_)
  · obtain ⟨_, _, _, _, _, _, rfl, _⟩ := h
    rfl
  · obtain ⟨x0, k0, xs0, x1, k1, xs1, rfl, V0, V1, fate⟩ := h
    refine ⟨_, (pss_cons (ps_expr (pe_hasX (E := E) HX_check_point (hr.mono (by decide)) (takes_of rfl rfl rfl rfl) (fun _ _ _ _ z => z) (by rfl) (pa_cons (pv 0) pa_nil)))
      (pss_cons (ps_expr (pe_hasX (E := E) HX_check_point (hr.mono (by decide)) (takes_of rfl rfl rfl rfl) (fun _ _ _ _ z => z) (by rfl) (pa_cons (pv 1) pa_nil)))
      (pss_one (ps_ret (pe_has H_place_sum (hr.mono (by decide)) (by rfl) (pa_cons (pv 0) (pa_cons (pv 1) pa_nil))))))), ?_⟩
    refine ⟨_, rfl, x0, k0, xs0, rfl, (V0).arg, fun b0 H1 s1 => ?_, fun b0 d H1 s1 hd => fate.2 b0 d H1 s1 hd⟩
    have t1 := s1
    refine ⟨_, rfl, x1, k1, xs1, rfl, (V1.same t1).arg, fun b1 H2 s2 => ?_, fun b1 d H2 s2 hd => (fate.1 b0).2 b1 d H2 (t1.trans s2) hd⟩
    have t2 := t1.trans s2
    obtain ⟨a0, p0, q0, r0, ta0, PA0⟩ := (V0.same t2).pt b0
    obtain ⟨a1, p1, q1, r1, ta1, PA1⟩ := (V1.same t2).pt b1
    exact ⟨_, rfl, _, rfl, x0, x1, a0, a1, _, _, _, _, _, _, 100, 100, rfl, ta0, ta1, PA0, PA1, by decide, by decide, fun p H9 s9 tp => ((fate.1 b0).1 b1) p H9 (t2.trans s9)⟩
abbrev sMinus : Stmt := top 30
theorem ok_m_minus {f CP CF : Addr} {fd : FuncData} (F : Fun K "minus" "minus" sMinus f fd) (HX_check_point : HasX P w K mg base "check_point" n_value 4 (spChkE K CP isPt)) (H_way_to : Has P w K mg base "way_to" p_po 2 (spP2 K wayL)) : FnOk P w K mg base (L2.CX P w) 5 f fd p_po (spEPP K CP CF) := by
  have sc : FnScope p_po p_po (defScope sMinus) := ⟨rfl, rfl, rfl, by decide +kernel, rfl, by decide +kernel, by decide +kernel⟩
  refine F.okX sc (fun vs H Q E h => ?_) (fun cdv A outer s H vs Q E hr h => ?_)
  · obtain ⟨_, _, _, _, _, _, rfl, _⟩ := h
    rfl
  · obtain ⟨x0, k0, xs0, x1, k1, xs1, rfl, V0, V1, fate⟩ := h
    refine ⟨_, (pss_cons (ps_expr (pe_hasX (E := E) HX_check_point (hr.mono (by decide)) (takes_of rfl rfl rfl rfl) (fun _ _ _ _ z => z) (by rfl) (pa_cons (pv 0) pa_nil)))
      (pss_cons (ps_expr (pe_hasX (E := E) HX_check_point (hr.mono (by decide)) (takes_of rfl rfl rfl rfl) (fun _ _ _ _ z => z) (by rfl) (pa_cons (pv 1) pa_nil)))
      (pss_one (ps_ret (pe_has H_way_to (hr.mono (by decide)) (by rfl) (pa_cons (pv 1) (pa_cons (pv 0) pa_nil))))))), ?_⟩
    refine ⟨_, rfl, x0, k0, xs0, rfl, (V0).arg, fun b0 H1 s1 => ?_, fun b0 d H1 s1 hd => fate.2 b0 d H1 s1 hd⟩
    have t1 := s1
    refine ⟨_, rfl, x1, k1, xs1, rfl, (V1.same t1).arg, fun b1 H2 s2 => ?_, fun b1 d H2 s2 hd => (fate.1 b0).2 b1 d H2 (t1.trans s2) hd⟩
    have t2 := t1.trans s2
    obtain ⟨a0, p0, q0, r0, ta0, PA0⟩ := (V0.same t2).pt b0
    obtain ⟨a1, p1, q1, r1, ta1, PA1⟩ := (V1.same t2).pt b1
    exact ⟨_, rfl, _, rfl, x1, x0, a1, a0, _, _, _, _, _, _, 100, 100, rfl, ta1, ta0, PA1, PA0, by decide, by decide, fun p H9 s9 tp => ((fate.1 b0).1 b1) p H9 (t2.trans s9)⟩
abbrev sTimes : Stmt := top 31
theorem ok_m_times {f CP CF : Addr} {fd : FuncData} (F : Fun K "times" "times" sTimes f fd) (HX_check_point : HasX P w K mg base "check_point" n_value 4 (spChkE K CP isPt)) (HX_check_fraction : HasX P w K mg base "check_fraction" n_value 4 (spChkE K CF isFr)) (H_place_times : Has P w K mg base "place_times" p_pf 2 (spPF K byL)) : FnOk P w K mg base (L2.CX P w) 5 f fd p_pf (spEPF K CP CF) := by
  have sc : FnScope p_pf p_pf (defScope sTimes) := ⟨rfl, rfl, rfl, by decide +kernel, rfl, by decide +kernel, by decide +kernel⟩
  refine F.okX sc (fun vs H Q E h => ?_) (fun cdv A outer s H vs Q E hr h => ?_)
  · obtain ⟨_, _, _, _, _, _, rfl, _⟩ := h
    rfl
  · obtain ⟨x0, k0, xs0, x1, k1, xs1, rfl, V0, V1, fate⟩ := h
    refine ⟨_, (pss_cons (ps_expr (pe_hasX (E := E) HX_check_point (hr.mono (by decide)) (takes_of rfl rfl rfl rfl) (fun _ _ _ _ z => z) (by rfl) (pa_cons (pv 0) pa_nil)))
      (pss_cons (ps_expr (pe_hasX (E := E) HX_check_fraction (hr.mono (by decide)) (takes_of rfl rfl rfl rfl) (fun _ _ _ _ z => z) (by rfl) (pa_cons (pv 1) pa_nil)))
      (pss_one (ps_ret (pe_has H_place_times (hr.mono (by decide)) (by rfl) (pa_cons (pv 0) (pa_cons (pv 1) pa_nil))))))), ?_⟩
    refine ⟨_, rfl, x0, k0, xs0, rfl, (V0).arg, fun b0 H1 s1 => ?_, fun b0 d H1 s1 hd => fate.2 b0 d H1 s1 hd⟩
    have t1 := s1
    refine ⟨_, rfl, x1, k1, xs1, rfl, (V1.same t1).arg, fun b1 H2 s2 => ?_, fun b1 d H2 s2 hd => (fate.1 b0).2 b1 d H2 (t1.trans s2) hd⟩
    have t2 := t1.trans s2
    obtain ⟨a0, p0, q0, r0, ta0, PA0⟩ := (V0.same t2).pt b0
    obtain ⟨a1, p1, q1, ta1, PA1⟩ := (V1.same t2).fr b1
    exact ⟨_, rfl, _, rfl, x0, x1, a0, a1, _, _, _, _, _, 100, 100, rfl, ta0, ta1, PA0, PA1, by decide, by decide, fun p H9 s9 tp => ((fate.1 b0).1 b1) p H9 (t2.trans s9)⟩
abbrev sBetween : Stmt := top 32
theorem ok_m_between {f CP CF : Addr} {fd : FuncData} (F : Fun K "between" "between" sBetween f fd) (HX_check_point : HasX P w K mg base "check_point" n_value 4 (spChkE K CP isPt)) (HX_check_fraction : HasX P w K mg base "check_fraction" n_value 4 (spChkE K CF isFr)) (H_place_between : Has P w K mg base "place_between" p_pof 3 (spPPF K)) : FnOk P w K mg base (L2.CX P w) 5 f fd p_pof (spEPPF K CP CF) := by
  have sc : FnScope p_pof p_pof (defScope sBetween) := ⟨rfl, rfl, rfl, by decide +kernel, rfl, by decide +kernel, by decide +kernel⟩
  refine F.okX sc (fun vs H Q E h => ?_) (fun cdv A outer s H vs Q E hr h => ?_)
  · obtain ⟨_, _, _, _, _, _, _, _, _, rfl, _⟩ := h
    rfl
  · obtain ⟨x0, k0, xs0, x1, k1, xs1, x2, k2, xs2, rfl, V0, V1, V2, fate⟩ := h
    refine ⟨_, (pss_cons (ps_expr (pe_hasX (E := E) HX_check_point (hr.mono (by decide)) (takes_of rfl rfl rfl rfl) (fun _ _ _ _ z => z) (by rfl) (pa_cons (pv 0) pa_nil)))
      (pss_cons (ps_expr (pe_hasX (E := E) HX_check_point (hr.mono (by decide)) (takes_of rfl rfl rfl rfl) (fun _ _ _ _ z => z) (by rfl) (pa_cons (pv 1) pa_nil)))
      (pss_cons (ps_expr (pe_hasX (E := E) HX_check_fraction (hr.mono (by decide)) (takes_of rfl rfl rfl rfl) (fun _ _ _ _ z => z) (by rfl) (pa_cons (pv 2) pa_nil)))
      (pss_one (ps_ret (pe_has H_place_between (hr.mono (by decide)) (by rfl) (pa_cons (pv 0) (pa_cons (pv 1) (pa_cons (pv 2) pa_nil))))))))), ?_⟩
    refine ⟨_, rfl, x0, k0, xs0, rfl, (V0).arg, fun b0 H1 s1 => ?_, fun b0 d H1 s1 hd => fate.2 b0 d H1 s1 hd⟩
    have t1 := s1
    refine ⟨_, rfl, x1, k1, xs1, rfl, (V1.same t1).arg, fun b1 H2 s2 => ?_, fun b1 d H2 s2 hd => (fate.1 b0).2 b1 d H2 (t1.trans s2) hd⟩
    have t2 := t1.trans s2
    refine ⟨_, rfl, x2, k2, xs2, rfl, (V2.same t2).arg, fun b2 H3 s3 => ?_, fun b2 d H3 s3 hd => ((fate.1 b0).1 b1).2 b2 d H3 (t2.trans s3) hd⟩
    have t3 := t2.trans s3
    obtain ⟨a0, p0, q0, r0, ta0, PA0⟩ := (V0.same t3).pt b0
    obtain ⟨a1, p1, q1, r1, ta1, PA1⟩ := (V1.same t3).pt b1
    obtain ⟨a2, p2, q2, ta2, PA2⟩ := (V2.same t3).fr b2
    exact ⟨_, rfl, _, rfl, _, rfl, x0, x1, x2, a0, a1, a2, _, _, _, _, _, _, _, _, rfl, ta0, ta1, ta2, PA0, PA1, PA2, fun p H9 s9 tp => (((fate.1 b0).1 b1).1 b2) p H9 (t3.trans s9)⟩
abbrev sInner : Stmt := top 33
theorem ok_m_inner {f CP CF : Addr} {fd : FuncData} (F : Fun K "inner" "inner" sInner f fd) (HX_check_point : HasX P w K mg base "check_point" n_value 4 (spChkE K CP isPt)) (H_inner_of : Has P w K mg base "inner_of" p_po 2 (spP2 K innL)) : FnOk P w K mg base (L2.CX P w) 5 f fd p_po (spEPP K CP CF) := by
  have sc : FnScope p_po p_po (defScope sInner) := ⟨rfl, rfl, rfl, by decide +kernel, rfl, by decide +kernel, by decide +kernel⟩
  refine F.okX sc (fun vs H Q E h => ?_) (fun cdv A outer s H vs Q E hr h => ?_)
  · obtain ⟨_, _, _, _, _, _, rfl, _⟩ := h
    rfl
  · obtain ⟨x0, k0, xs0, x1, k1, xs1, rfl, V0, V1, fate⟩ := h
    refine ⟨_, (pss_cons (ps_expr (pe_hasX (E := E) HX_check_point (hr.mono (by decide)) (takes_of rfl rfl rfl rfl) (fun _ _ _ _ z => z) (by rfl) (pa_cons (pv 0) pa_nil)))
      (pss_cons (ps_expr (pe_hasX (E := E) HX_check_point (hr.mono (by decide)) (takes_of rfl rfl rfl rfl) (fun _ _ _ _ z => z) (by rfl) (pa_cons (pv 1) pa_nil)))
      (pss_one (ps_ret (pe_has H_inner_of (hr.mono (by decide)) (by rfl) (pa_cons (pv 0) (pa_cons (pv 1) pa_nil))))))), ?_⟩
    refine ⟨_, rfl, x0, k0, xs0, rfl, (V0).arg, fun b0 H1 s1 => ?_, fun b0 d H1 s1 hd => fate.2 b0 d H1 s1 hd⟩
    have t1 := s1
    refine ⟨_, rfl, x1, k1, xs1, rfl, (V1.same t1).arg, fun b1 H2 s2 => ?_, fun b1 d H2 s2 hd => (fate.1 b0).2 b1 d H2 (t1.trans s2) hd⟩
    have t2 := t1.trans s2
    obtain ⟨a0, p0, q0, r0, ta0, PA0⟩ := (V0.same t2).pt b0
    obtain ⟨a1, p1, q1, r1, ta1, PA1⟩ := (V1.same t2).pt b1
    exact ⟨_, rfl, _, rfl, x0, x1, a0, a1, _, _, _, _, _, _, 100, 100, rfl, ta0, ta1, PA0, PA1, by decide, by decide, fun p H9 s9 tp => ((fate.1 b0).1 b1) p H9 (t2.trans s9)⟩
abbrev sCross : Stmt := top 34
theorem ok_m_cross {f CP CF : Addr} {fd : FuncData} (F : Fun K "cross" "cross" sCross f fd) (HX_check_point : HasX P w K mg base "check_point" n_value 4 (spChkE K CP isPt)) (H_cross_of : Has P w K mg base "cross_of" p_po 2 (spP2 K crsL)) : FnOk P w K mg base (L2.CX P w) 5 f fd p_po (spEPP K CP CF) := by
  have sc : FnScope p_po p_po (defScope sCross) := ⟨rfl, rfl, rfl, by decide +kernel, rfl, by decide +kernel, by decide +kernel⟩
  refine F.okX sc (fun vs H Q E h => ?_) (fun cdv A outer s H vs Q E hr h => ?_)
  · obtain ⟨_, _, _, _, _, _, rfl, _⟩ := h
    rfl
  · obtain ⟨x0, k0, xs0, x1, k1, xs1, rfl, V0, V1, fate⟩ := h
    refine ⟨_, (pss_cons (ps_expr (pe_hasX (E := E) HX_check_point (hr.mono (by decide)) (takes_of rfl rfl rfl rfl) (fun _ _ _ _ z => z) (by rfl) (pa_cons (pv 0) pa_nil)))
      (pss_cons (ps_expr (pe_hasX (E := E) HX_check_point (hr.mono (by decide)) (takes_of rfl rfl rfl rfl) (fun _ _ _ _ z => z) (by rfl) (pa_cons (pv 1) pa_nil)))
      (pss_one (ps_ret (pe_has H_cross_of (hr.mono (by decide)) (by rfl) (pa_cons (pv 0) (pa_cons (pv 1) pa_nil))))))), ?_⟩
    refine ⟨_, rfl, x0, k0, xs0, rfl, (V0).arg, fun b0 H1 s1 => ?_, fun b0 d H1 s1 hd => fate.2 b0 d H1 s1 hd⟩
    have t1 := s1
    refine ⟨_, rfl, x1, k1, xs1, rfl, (V1.same t1).arg, fun b1 H2 s2 => ?_, fun b1 d H2 s2 hd => (fate.1 b0).2 b1 d H2 (t1.trans s2) hd⟩
    have t2 := t1.trans s2
    obtain ⟨a0, p0, q0, r0, ta0, PA0⟩ := (V0.same t2).pt b0
    obtain ⟨a1, p1, q1, r1, ta1, PA1⟩ := (V1.same t2).pt b1
    exact ⟨_, rfl, _, rfl, x0, x1, a0, a1, _, _, _, _, _, _, 100, 100, rfl, ta0, ta1, PA0, PA1, by decide, by decide, fun p H9 s9 tp => ((fate.1 b0).1 b1) p H9 (t2.trans s9)⟩
abbrev sQuarter : Stmt := top 35
theorem ok_m_quarter {f CP CF : Addr} {fd : FuncData} (F : Fun K "quarter" "quarter" sQuarter f fd) (HX_check_point : HasX P w K mg base "check_point" n_value 4 (spChkE K CP isPt)) (H_quarter_of : Has P w K mg base "quarter_of" p_p 1 (spP1 K qtrL)) : FnOk P w K mg base (L2.CX P w) 5 f fd p_p (spEP K CP CF) := by
  have sc : FnScope p_p p_p (defScope sQuarter) := ⟨rfl, rfl, rfl, by decide +kernel, rfl, by decide +kernel, by decide +kernel⟩
  refine F.okX sc (fun vs H Q E h => ?_) (fun cdv A outer s H vs Q E hr h => ?_)
  · obtain ⟨_, _, _, rfl, _⟩ := h
    rfl
  · obtain ⟨x0, k0, xs0, rfl, V0, fate⟩ := h
    refine ⟨_, (pss_cons (ps_expr (pe_hasX (E := E) HX_check_point (hr.mono (by decide)) (takes_of rfl rfl rfl rfl) (fun _ _ _ _ z => z) (by rfl) (pa_cons (pv 0) pa_nil)))
      (pss_one (ps_ret (pe_has H_quarter_of (hr.mono (by decide)) (by rfl) (pa_cons (pv 0) pa_nil))))), ?_⟩
    refine ⟨_, rfl, x0, k0, xs0, rfl, (V0).arg, fun b0 H1 s1 => ?_, fun b0 d H1 s1 hd => fate.2 b0 d H1 s1 hd⟩
    have t1 := s1
    obtain ⟨a0, p0, q0, r0, ta0, PA0⟩ := (V0.same t1).pt b0
    exact ⟨_, rfl, x0, a0, _, _, _, 100, rfl, ta0, PA0, by decide, fun p H9 s9 tp => (fate.1 b0) p H9 (t1.trans s9)⟩
abbrev sSense : Stmt := top 36
theorem ok_m_sense {f CP CF : Addr} {fd : FuncData} (F : Fun K "sense" "sense" sSense f fd) (HX_check_point : HasX P w K mg base "check_point" n_value 4 (spChkE K CP isPt)) (H_side_of : Has P w K mg base "side_of" p_pot 2 (spSide K)) : FnOk P w K mg base (L2.CX P w) 5 f fd p_pot (spEPPP K CP CF) := by
  have sc : FnScope p_pot p_pot (defScope sSense) := ⟨rfl, rfl, rfl, by decide +kernel, rfl, by decide +kernel, by decide +kernel⟩
  refine F.okX sc (fun vs H Q E h => ?_) (fun cdv A outer s H vs Q E hr h => ?_)
  · obtain ⟨_, _, _, _, _, _, _, _, _, rfl, _⟩ := h
    rfl
  · obtain ⟨x0, k0, xs0, x1, k1, xs1, x2, k2, xs2, rfl, V0, V1, V2, fate⟩ := h
    refine ⟨_, (pss_cons (ps_expr (pe_hasX (E := E) HX_check_point (hr.mono (by decide)) (takes_of rfl rfl rfl rfl) (fun _ _ _ _ z => z) (by rfl) (pa_cons (pv 0) pa_nil)))
      (pss_cons (ps_expr (pe_hasX (E := E) HX_check_point (hr.mono (by decide)) (takes_of rfl rfl rfl rfl) (fun _ _ _ _ z => z) (by rfl) (pa_cons (pv 1) pa_nil)))
      (pss_cons (ps_expr (pe_hasX (E := E) HX_check_point (hr.mono (by decide)) (takes_of rfl rfl rfl rfl) (fun _ _ _ _ z => z) (by rfl) (pa_cons (pv 2) pa_nil)))
      (pss_one (ps_ret (pe_has H_side_of (hr.mono (by decide)) (by rfl) (pa_cons (pv 0) (pa_cons (pv 1) (pa_cons (pv 2) pa_nil))))))))), ?_⟩
    refine ⟨_, rfl, x0, k0, xs0, rfl, (V0).arg, fun b0 H1 s1 => ?_, fun b0 d H1 s1 hd => fate.2 b0 d H1 s1 hd⟩
    have t1 := s1
    refine ⟨_, rfl, x1, k1, xs1, rfl, (V1.same t1).arg, fun b1 H2 s2 => ?_, fun b1 d H2 s2 hd => (fate.1 b0).2 b1 d H2 (t1.trans s2) hd⟩
    have t2 := t1.trans s2
    refine ⟨_, rfl, x2, k2, xs2, rfl, (V2.same t2).arg, fun b2 H3 s3 => ?_, fun b2 d H3 s3 hd => ((fate.1 b0).1 b1).2 b2 d H3 (t2.trans s3) hd⟩
    have t3 := t2.trans s3
    obtain ⟨a0, p0, q0, r0, ta0, PA0⟩ := (V0.same t3).pt b0
    obtain ⟨a1, p1, q1, r1, ta1, PA1⟩ := (V1.same t3).pt b1
    obtain ⟨a2, p2, q2, r2, ta2, PA2⟩ := (V2.same t3).pt b2
    exact ⟨_, rfl, _, rfl, _, rfl, x0, x1, x2, a0, a1, a2, _, _, _, _, _, _, _, _, _, 100, 100, 100, rfl, ta0, ta1, ta2, PA0, PA1, PA2, by decide, by decide, by decide, fun H9 s9 => (((fate.1 b0).1 b1).1 b2) _ H9 (t3.trans s9)⟩
end
end K7

set_option
      maxHeartbeats 2000000
namespace K7
open PySem L2 Ur LamX PyProof.Rows
/-! ### the odd values -/
def isLf : V → Bool
  | .int _ => true
  | .bl _ => true
  | .non => true
  | .str _ => true
  | _ => false
def lf : V → PyData
  | .int i => .int i
  | .bl b => .bool b
  | .str x => .str x
  | _ => .none
def small : V → Bool
  | .int i => decide (i.natAbs ≤ 100)
  | _ => true
theorem dp_lf {K : PySem.W.Frag} {H : Hp} : ∀ {v : V}, isLf v = true → Dp K H v (lf v)
  | .int i, _ => .int i
  | .bl b, _ => .bl b
  | .non, _ => .non
  | .str x, _ => .str x
theorem dpAll_lf {K : PySem.W.Frag} {H : Hp} : ∀ {vs : List V}, vs.all isLf = true → DpAll K H vs (vs.map lf)
  | [], _ => .nil
  | v :: r, h => by
    rw [List.all_cons,
          Bool.and_eq_true] at h
    exact .cons (dp_lf h.1) (dpAll_lf h.2)
theorem it_lf {K : PySem.W.Frag} {H : Hp} : ∀ {v : V}, isLf v = true → (lf v).canLay0 = true → It K H v
  | .int i, _, _ => it_int i
  | .bl b, _, _ => it_bl b
  | .non, _, _ => it_non
  | .str x, _, h => it_str h
def okD (d : PyData) : Bool := (PyData.str d.shown).canLay0 && (d.showable && (!d.hasDict && (decide (d.shown.length ≤ sizeLine) && decide (d.depth ≤ 60))))
theorem tx_ok {d : PyData} (g : okD d = true) : (PyData.str d.shown).canLay0 = true := by
  unfold okD at g
  rw [Bool.and_eq_true] at g
  exact g.1
theorem rp_ok {K : PySem.W.Frag} {H : Hp} {a : Addr} {d : PyData} (h : Dp K H (.ref a) d) (g : okD d = true) : Rp K H (.ref a) d.shown := by
  unfold okD at g
  simp only [Bool.and_eq_true, Bool.not_eq_true', decide_eq_true_eq] at g
  exact rp_dp h g.2.1 g.2.2.1 g.2.2.2.1 g.2.2.2.2
def okV (vs : List V) : Bool := vs.all isLf && (vs.all small && (decide (vs.length ≤ 5) && vs.all fun v => (lf v).canLay0))
structure OkV (vs : List V) : Prop where
  lf : vs.all isLf = true
  sm : ∀ i, V.int i ∈ vs → i.natAbs ≤ 100
  ln : vs.length ≤ 5
  ly : ∀ v ∈ vs, (K7.lf v).canLay0 = true
theorem okV_of {vs : List V} (h : okV vs = true) : OkV vs := by
  unfold okV at h
  simp only [Bool.and_eq_true,
        decide_eq_true_eq] at h
  refine ⟨h.1, fun i hi => ?_, h.2.2.1, fun v hv => List.all_eq_true.mp h.2.2.2 v hv⟩
  have := List.all_eq_true.mp h.2.1 _ hi
  simpa [small] using this
theorem row_lf {K : PySem.W.Frag} {H : Hp} {vs : List V} (h : OkV vs) : Row K H vs :=
  ⟨h.ln, fun y hy => it_lf (List.all_eq_true.mp h.lf y hy) (h.ly y hy), fun i hi => big_of (Nat.le_trans (h.sm i hi) (by decide))⟩
structure Odd (K : PySem.W.Frag) (H : Hp) (x : V) (k : Kd) (xs : List V) (t : Str) : Prop where
  vo : Vo K H x k xs
  rp : Rp K H x t
  tx : (PyData.str t).canLay0 = true
theorem Vo.ext {K : PySem.W.Frag} {H H' : Hp} {x : V} {k : Kd} {xs : List V} (h : Vo K H x k xs) (e : ExtN H H') : Vo K H' x k xs := ⟨h.arg.ext e, h.sm⟩
theorem Odd.ext {K : PySem.W.Frag} {H H' : Hp} {x : V} {k : Kd} {xs : List V} {t : Str} (h : Odd K H x k xs t) (e : ExtN H H') : Odd K H' x k xs t := ⟨h.vo.ext e, h.rp.ext e, h.tx⟩
def IsOdd (K : PySem.W.Frag) (H : Hp) (x : V) : Prop := ∃ k xs t, Odd K H x k xs t
theorem IsOdd.ext {K : PySem.W.Frag} {H H' : Hp} {x : V} (h : IsOdd K H x) (e : ExtN H H') : IsOdd K H' x := let ⟨k, xs, t, o⟩ := h; ⟨k, xs, t, o.ext e⟩
/-- a part of B that lies off H -/
structure Sub (H A B : Hp) : Prop where
  sm : Same A B
  off : ∀ b o, A b = some o → H b = none
def emp : Hp := fun _ => none
theorem Sub.emp {H B : Hp} : Sub H emp B := ⟨fun b o e => (by cases e), fun b o e => (by cases e)⟩
theorem Sub.new {H A B : Hp} {p : Addr} {o : HO} (h : Sub H A B) (s : Same H B) (hp : B p = none) : Sub H (upd A p o) (upd B p o) := by
  refine ⟨fun b u e => ?_, fun b u e => ?_⟩
  · by_cases z : b = p
    · subst z
      rw [upd_same] at e ⊢
      exact e
    · rw [upd_ne z] at e ⊢
      exact h.sm _ _ e
  · by_cases z : b = p
    · subst z
      exact s.free hp
    · rw [upd_ne z] at e
      exact h.off _ _ e
/-- an odd value whose objects lie off H -/
def New (K : PySem.W.Frag) (H H' : Hp) (x : V) : Prop := ∃ A : Hp, Sub H A H' ∧ IsOdd K A x
theorem New.mono {K : PySem.W.Frag} {H0 H H' H2 : Hp} {x : V} (n : New K H H' x) (s0 : Same H0 H) (s : Same H' H2) : New K H0 H2 x :=
  let ⟨A, ⟨a, b⟩, o⟩ := n; ⟨A, ⟨a.trans s, fun c u e => s0.free (b c u e)⟩, o⟩
theorem New.odd {K : PySem.W.Frag} {H H' : Hp} {x : V} (n : New K H H' x) : IsOdd K H' x := let ⟨_, a, o⟩ := n; o.ext (ext_same a.sm)
/-! what an expression of the display gives -/
def OddE (K : PySem.W.Frag) (te : TE) : Prop := ∀ (σ : L2.St) (H : Hp) (Q : VK), (∀ x H', Same H H' → New K H H' x → Q x H') → te σ H Q
def OddA (K : PySem.W.Frag) (ta : TA) (n : Nat) : Prop := ∀ (σ : L2.St) (H : Hp) (Q : List V → Hp → Prop), (∀ xs H', Same H H' → xs.length = n → (∀ x ∈ xs, New K H H' x) → Q xs H') → ta σ H Q
def ConE (te : TE) (v : V) : Prop := ∀ (σ : L2.St) (H : Hp) (Q : VK), Q v H → te σ H Q
def ConA (ta : TA) (vs : List V) : Prop := ∀ (σ : L2.St) (H : Hp) (Q : List V → Hp → Prop), Q vs H → ta σ H Q
theorem cZ : ConA tNil [] := fun _ _ _ h => h
theorem cC {te : TE} {ta : TA} {v : V} {vs : List V} (h1 : ConE te v) (h2 : ConA ta vs) : ConA (tCons te ta) (v :: vs) := fun σ H Q h => h1 σ H _ (h2 σ H _ h)
theorem cI {v : V} : ConE (tC v) v := fun _ _ _ h => h
theorem oaZ {K : PySem.W.Frag} : OddA K tNil 0 := fun σ H Q h => h [] H (Same.refl H) rfl (fun _ hx => nomatch hx)
theorem oaC {K : PySem.W.Frag} {te : TE} {ta : TA} {n : Nat} (h1 : OddE K te) (h2 : OddA K ta n) : OddA K (tCons te ta) (n + 1) := by
  intro σ H Q h
  refine h1 σ H _ fun x H1 s1 o1 => h2 σ H1 _ fun xs H2 s2 hl o2 => h _ H2 (s1.trans s2) (by simp [hl]) fun y hy => ?_
  rcases List.mem_cons.mp
        hy with rfl | hy
  · exact o1.mono (Same.refl H) s2
  · exact (o2 y hy).mono s1 (Same.refl _)
section
variable {K : PySem.W.Frag}
theorem oddNon : OddE K (tC .non) := fun σ H Q h => h _ H (Same.refl H) ⟨emp, .emp, .non, [], _, ⟨arg_of (.base .non) (by decide), fun e => by cases e⟩, rp_non, by decide +kernel⟩
theorem oddB (b : Bool) : OddE K (tC (.bl b)) := fun σ H Q h => h _ H (Same.refl H) ⟨emp, .emp, .bool, [], _, ⟨arg_of (.base (.bl b)) (by decide), fun e => by cases e⟩, rp_bl b, by cases b <;> decide +kernel⟩
theorem oddI (i : Int) (h0 : i.natAbs ≤ 100) (hz : i.natAbs.log2 < 1920) (hy : (PyData.str (toString i)).canLay0 = true) : OddE K (tC (.int i)) := fun σ H Q h => h _ H (Same.refl H) ⟨emp, .emp, .int, [], _, ⟨arg_of (.base (.int i)) (by decide), fun e => by cases e⟩, rp_int i hz, hy⟩
theorem oddS (x : Str) (hz : (reprText x).length ≤ sizeLine) (hy : (PyData.str (reprText x)).canLay0 = true) : OddE K (tC (.str x)) := fun σ H Q h => h _ H (Same.refl H) ⟨emp, .emp, .str, [], _, ⟨arg_of (.base (.str x)) (by decide), fun e => by cases e⟩, rp_str x hz, hy⟩
theorem oddD : OddE K tDNewK := fun σ H Q h p hp => h _ _ (same_new hp) ⟨_, Sub.emp.new (Same.refl H) hp, .dic, [], _, ⟨arg_of (.base (.dK upd_same)) (by decide), fun e => by cases e⟩, rp_dic upd_same, by decide +kernel⟩
theorem len5 {n : Nat} (h : n ≤ 5) : n ≤ sizeLine := Nat.le_trans h (by decide)
theorem oddT {ta : TA} {vs : List V} (hc : ConA ta vs) (g : (okV vs && okD (.tuple (vs.map lf))) = true) : OddE K (tTup ta) := by
  intro σ H Q h
  rw [Bool.and_eq_true] at g
  have V := okV_of g.1
  refine hc σ H _ ⟨len5 V.ln, fun p hp => h _ _ (same_new hp) ?_⟩
  have hS : SqT K (upd emp p (.tup vs)) p vs := SqT.of upd_same
  exact ⟨_, Sub.emp.new (Same.refl H) hp, .tup, vs, _, ⟨arg_tup hS (row_lf V), fun _ i hi => V.sm i hi⟩, rp_ok (.tup hS (dpAll_lf V.lf)) g.2, tx_ok g.2⟩
theorem oddL {ta : TA} {vs : List V} (hc : ConA ta vs) (g : (okV vs && okD (.list (vs.map lf))) = true) : OddE K (tLst ta) := by
  intro σ H Q h
  rw [Bool.and_eq_true] at g
  have V := okV_of g.1
  refine hc σ H _ ⟨len5 V.ln, fun p hp => h _ _ (same_new hp) ?_⟩
  exact ⟨_, Sub.emp.new (Same.refl H) hp, .lst, [], _, ⟨arg_of (.base (.lst upd_same)) (by decide), fun e => by cases e⟩, rp_ok (.lst (SqL.of upd_same) (dpAll_lf V.lf)) g.2, tx_ok g.2⟩
def okN (vs : List V) : Bool := okV vs && ((PyData.tuple (vs.map lf)).canLay0 && decide ((PyData.tuple (vs.map lf)).depth ≤ 8))
theorem it_nest {H : Hp} {a : Addr} {vs : List V} (hS : SqT K H a vs) (g : okN vs = true) : It K H (.ref a) := by
  unfold okN at g
  simp only [Bool.and_eq_true, decide_eq_true_eq] at g
  exact ⟨⟨.tup, tup_kd hS⟩, _, .tup hS (dpAll_lf (okV_of g.1).lf), g.2.1, g.2.2⟩
theorem okN_v {vs : List V} (g : okN vs = true) : OkV vs := by
  unfold okN at g
  rw [Bool.and_eq_true] at g
  exact okV_of g.1
theorem ne_of_none' {H : Hp} {p q : Addr} {o : HO} (h : H p = none) (e : H q = some o) : p ≠ q := fun z => by
  subst z
  rw [h] at e
  cases e
theorem oddN1 {ta : TA} {vs : List V} (hc : ConA ta vs) (g : (okN vs && okD (.tuple [.tuple (vs.map lf)])) = true) : OddE K (tTup (tCons (tTup ta) tNil)) := by
  intro σ H Q h
  rw [Bool.and_eq_true] at g
  have V := okN_v g.1
  refine hc σ H _ ⟨len5 V.ln, fun p hp => ⟨len5 (by show 1 ≤ 5; decide), fun p2 hp2 => h _ _ ((same_new hp).trans (same_new hp2)) ?_⟩⟩
  have n2 : p2 ≠ p := ne_of_none' hp2 upd_same
  have h1 : SqT K (upd emp p (.tup vs)) p vs := SqT.of upd_same
  have h1' := same_sqT (same_new (p := p2) (o := HO.tup [.ref p]) (show (upd emp p (.tup vs)) p2 = none by rw [upd_ne n2]; rfl)) h1
  have hS : SqT K (upd (upd emp p (.tup vs)) p2 (.tup [.ref p])) p2 [.ref p] := SqT.of upd_same
  refine ⟨_, (Sub.emp.new (Same.refl H) hp).new (same_new hp) hp2, .tup, [.ref p], _, ⟨arg_tup hS ⟨by simp, fun y hy => ?_, fun i hi => by simp at hi⟩, fun _ i hi => by simp at hi⟩, rp_ok (.tup hS (.cons (.tup h1' (dpAll_lf V.lf)) .nil)) g.2, tx_ok g.2⟩
  simp only [List.mem_cons, List.not_mem_nil, or_false] at hy
  subst hy
  exact it_nest h1' g.1
theorem oddN2 {ta tb : TA} {vs ws : List V} (hc : ConA ta vs) (hd : ConA tb ws) (g : (okN vs && (okN ws && okD (.tuple [.tuple (vs.map lf), .tuple (ws.map lf)]))) = true) : OddE K (tTup (tCons (tTup ta) (tCons (tTup tb) tNil))) := by
  intro σ H Q h
  rw [Bool.and_eq_true, Bool.and_eq_true] at g
  have V := okN_v g.1
  have W := okN_v g.2.1
  refine hc σ H _ ⟨len5 V.ln, fun p hp => hd σ _ _ ⟨len5 W.ln, fun p1 hp1 => ⟨len5 (by show 2 ≤ 5; decide), fun p2 hp2 => h _ _ (((same_new hp).trans (same_new hp1)).trans (same_new hp2)) ?_⟩⟩⟩
  have n1 : p1 ≠ p := ne_of_none' hp1 upd_same
  have n2 : p2 ≠ p1 := ne_of_none' hp2 upd_same
  have n3 : p2 ≠ p := ne_of_none' hp2 (by rw [upd_ne n1.symm, upd_same])
  have z1 : (upd emp p (.tup vs)) p1 = none := by rw [upd_ne n1]; rfl
  have z2 : (upd (upd emp p (.tup vs)) p1 (.tup ws)) p2 = none := by rw [upd_ne n2, upd_ne n3]; rfl
  have h1 : SqT K (upd emp p (.tup vs)) p vs := SqT.of upd_same
  have h1' := same_sqT (same_new (p := p2) (o := HO.tup [.ref p, .ref p1]) z2) (same_sqT (same_new (p := p1) (o := HO.tup ws) z1) h1)
  have h2 : SqT K (upd (upd emp p (.tup vs)) p1 (.tup ws)) p1 ws := SqT.of upd_same
  have h2' := same_sqT (same_new (p := p2) (o := HO.tup [.ref p, .ref p1]) z2) h2
  have hS : SqT K (upd (upd (upd emp p (.tup vs)) p1 (.tup ws)) p2 (.tup [.ref p, .ref p1])) p2 [.ref p, .ref p1] := SqT.of upd_same
  refine ⟨_, ((Sub.emp.new (Same.refl H) hp).new (same_new hp) hp1).new ((same_new hp).trans (same_new hp1)) hp2, .tup, [.ref p, .ref p1], _, ⟨arg_tup hS ⟨by simp, fun y hy => ?_, fun i hi => by simp at hi⟩, fun _ i hi => by simp at hi⟩, rp_ok (.tup hS (.cons (.tup h1' (dpAll_lf V.lf)) (.cons (.tup h2' (dpAll_lf W.lf)) .nil))) g.2.2, tx_ok g.2.2⟩
  simp only [List.mem_cons, List.not_mem_nil, or_false] at hy
  rcases hy with rfl | rfl
  · exact it_nest h1' g.1
  · exact it_nest h2' g.2.1
end
section
variable {P : Program} {w : World} {K :
      PySem.W.Frag} {mg : Str → Option Value} {base : Heap}
theorem oddLst {ta : TA} {n : Nat} (h : OddA K ta n) (hn : n ≤ 100) (σ : L2.St) (H : Hp) (Q : VK) (q : ∀ p xs H', Same H H' → H' p = some (.lst xs) → xs.length = n → (∀ x ∈ xs, New K H H' x) → Q (.ref p) H') : tLst ta σ H Q :=
  h σ H _ fun xs H1 s1 l1 o1 => ⟨by rw [l1]; exact Nat.le_trans hn (by decide), fun p hp => q p xs _ (s1.trans (same_new hp)) upd_same l1 fun x hx => (o1 x hx).mono (Same.refl H) (same_new hp)⟩
abbrev sOdd : Stmt := top 48
abbrev n_law_odd : List Str := ["_law_urn_here", "_law_some"]
abbrev p_law_odd : List Str := ["_law_urn_here"]
theorem sc_law_odd : FnScope n_law_odd p_law_odd (defScope sOdd) := ⟨rfl, rfl, rfl, by decide +kernel, rfl, by decide +kernel, by decide +kernel⟩
def spOdd (K : PySem.W.Frag) : Sp := fun vs H Q _ => ∃ u : Addr, vs = [.ref u] ∧ H u = some (UrnO u) ∧ ∀ x H', Same H H' → New K H H' x → Q x H'
theorem cN {i : Int} : ConE (tUn (rU fun i => V.int (-i)) (tC (.int i))) (.int (-i)) := fun _ _ _ h => ⟨_, rfl, h⟩
theorem w_seq {te : TE} {g : TG} {u : TS} {D : Ends} {σ : L2.St} {H : Hp} (h : te σ H fun x H1 => g x σ H1 (u D)) : tSeq (tAsg te g) u D σ H := h
theorem w_nm {i : Nat} {v : V} {σ : L2.St} {H : Hp} {Q : L2.St → Hp → Prop} (h : Q (σ.set i (some v)) H) : gName i v σ H Q := h
theorem w_opv {i : Nat} {v : V} {r : R2} {tb : TE} {σ : L2.St} {H : Hp} {Q : VK} (e : σ[i]? = some (some v)) (h : tb σ H fun y H2 => r v y H2 Q) : tOp r (tVar i) tb σ H Q := ⟨v, e, h⟩
theorem w_ret1 {i : Nat} {v : V} {te : TE} {sp : Sp} {E : XK} {D : Ends} {σ : L2.St} {H : Hp} (e : σ[i]? = some (some v)) (h : te σ H fun x H1 => sp [v, x] H1 D.rt E) : tRet (tCall sp [] E (tCons (tVar i) (tCons te tNil))) D σ H := ⟨v, e, h⟩
theorem ok_odd {f : Addr} {fd : FuncData} (F : Fun K "_law_odd" "_law_odd" sOdd f fd) (H_law_any : Has P w K mg base "_law_any" p_law_any 2 spAny) : FnOk P w K mg base CX0 3 f fd p_law_odd (spOdd K) := by
  refine F.ok sc_law_odd (fun vs H Q E h => ?_) (fun cdv A outer s H vs Q E hr h => ?_)
  · obtain ⟨u, rfl, _⟩ := h
    rfl
  · obtain ⟨u, rfl, hu, q⟩ := h
    refine ⟨_, (pss_cons (ps_set (i := 1) sc_law_odd.nd rfl (Or.inl rfl) (pe_lst (pa_cons pe_non (pa_cons pe_bl (pa_cons pe_int (pa_cons pe_int (pa_cons pe_str (pa_cons pe_str (pa_cons (pe_tup pa_nil) (pa_cons (pe_tup (pa_cons pe_int pa_nil)) (pa_cons (pe_tup (pa_cons pe_int (pa_cons pe_int pa_nil))) (pa_cons (pe_tup (pa_cons pe_int (pa_cons pe_int pa_nil))) (pa_cons (pe_tup (pa_cons pe_int (pa_cons pe_int pa_nil))) (pa_cons (pe_tup (pa_cons pe_int (pa_cons pe_int pa_nil))) (pa_cons (pe_tup (pa_cons pe_int (pa_cons (pe_un un_neg pe_int) pa_nil))) (pa_cons (pe_tup (pa_cons (pe_un un_neg pe_int) (pa_cons pe_int pa_nil))) (pa_cons (pe_tup (pa_cons pe_int (pa_cons pe_int pa_nil))) (pa_cons (pe_lst (pa_cons pe_int (pa_cons pe_int pa_nil))) (pa_cons pe_dnewK (pa_cons (pe_tup (pa_cons pe_int (pa_cons pe_int (pa_cons pe_int pa_nil)))) pa_nil))))))))))))))))))))
      (pss_cons (ps_set (i := 1) sc_law_odd.nd rfl (Or.inl rfl) (pe_op op_cat (pv 1) (pe_lst (pa_cons (pe_tup (pa_cons pe_int (pa_cons pe_int (pa_cons pe_int pa_nil)))) (pa_cons (pe_tup (pa_cons pe_int (pa_cons pe_int (pa_cons pe_int pa_nil)))) (pa_cons (pe_tup (pa_cons pe_int (pa_cons pe_int (pa_cons pe_int pa_nil)))) (pa_cons (pe_tup (pa_cons pe_int (pa_cons pe_int (pa_cons pe_int pa_nil)))) (pa_cons (pe_tup (pa_cons pe_int (pa_cons pe_int (pa_cons (pe_un un_neg pe_int) pa_nil)))) (pa_cons (pe_lst (pa_cons pe_int (pa_cons pe_int (pa_cons pe_int pa_nil)))) (pa_cons (pe_tup (pa_cons pe_int (pa_cons pe_int (pa_cons pe_bl pa_nil)))) (pa_cons (pe_tup (pa_cons pe_int (pa_cons pe_non (pa_cons pe_int pa_nil)))) (pa_cons (pe_tup (pa_cons pe_int (pa_cons pe_int (pa_cons pe_int (pa_cons pe_int pa_nil))))) (pa_cons (pe_tup (pa_cons (pe_un un_neg pe_int) (pa_cons pe_int (pa_cons pe_int pa_nil)))) pa_nil)))))))))))))
      (pss_one (ps_ret (pe_has H_law_any (hr.mono (by decide)) (by rfl) (pa_cons (pv 0) (pa_cons (pe_op op_cat (pv 1) (pe_lst (pa_cons (pe_tup (pa_cons (pe_tup (pa_cons pe_int (pa_cons pe_int (pa_cons pe_int pa_nil)))) pa_nil)) (pa_cons (pe_tup (pa_cons pe_bl (pa_cons pe_int pa_nil))) (pa_cons (pe_tup (pa_cons pe_str (pa_cons pe_int (pa_cons pe_int pa_nil)))) (pa_cons (pe_tup (pa_cons (pe_tup (pa_cons pe_int (pa_cons pe_int (pa_cons pe_int pa_nil)))) (pa_cons (pe_tup (pa_cons pe_int (pa_cons pe_int (pa_cons pe_int pa_nil)))) pa_nil))) pa_nil)))))) pa_nil))))))), ?_⟩
    have A1 : OddA K _ _ := (oaC oddNon (oaC (oddB true) (oaC (oddI 0 (by decide) (by decide +kernel) (by decide +kernel)) (oaC (oddI 3 (by decide) (by decide +kernel) (by decide +kernel)) (oaC (oddS "" (by decide +kernel) (by decide +kernel)) (oaC (oddS "point" (by decide +kernel) (by decide +kernel)) (oaC (oddT cZ (by decide +kernel)) (oaC (oddT (cC (cI (v := .int 1)) cZ) (by decide +kernel)) (oaC (oddT (cC (cI (v := .int 1)) (cC (cI (v := .int 2)) cZ)) (by decide +kernel)) (oaC (oddT (cC (cI (v := .int 0)) (cC (cI (v := .int 1)) cZ)) (by decide +kernel)) (oaC (oddT (cC (cI (v := .int 2)) (cC (cI (v := .int 4)) cZ)) (by decide +kernel)) (oaC (oddT (cC (cI (v := .int 1)) (cC (cI (v := .int 0)) cZ)) (by decide +kernel)) (oaC (oddT (cC (cI (v := .int 1)) (cC (cN (i := 2)) cZ)) (by decide +kernel)) (oaC (oddT (cC (cN (i := 3)) (cC (cI (v := .int 2)) cZ)) (by decide +kernel)) (oaC (oddT (cC (cI (v := .int 0)) (cC (cI (v := .int 2)) cZ)) (by decide +kernel)) (oaC (oddL (cC (cI (v := .int 1)) (cC (cI (v := .int 2)) cZ)) (by decide +kernel)) (oaC oddD (oaC (oddT (cC (cI (v := .int 1)) (cC (cI (v := .int 2)) (cC (cI (v := .int 3)) cZ))) (by decide +kernel)) oaZ))))))))))))))))))
    have A2 : OddA K _ _ := (oaC (oddT (cC (cI (v := .int 0)) (cC (cI (v := .int 0)) (cC (cI (v := .int 1)) cZ))) (by decide +kernel)) (oaC (oddT (cC (cI (v := .int 0)) (cC (cI (v := .int 0)) (cC (cI (v := .int 2)) cZ))) (by decide +kernel)) (oaC (oddT (cC (cI (v := .int 2)) (cC (cI (v := .int 4)) (cC (cI (v := .int 6)) cZ))) (by decide +kernel)) (oaC (oddT (cC (cI (v := .int 1)) (cC (cI (v := .int 2)) (cC (cI (v := .int 0)) cZ))) (by decide +kernel)) (oaC (oddT (cC (cI (v := .int 1)) (cC (cI (v := .int 2)) (cC (cN (i := 3)) cZ))) (by decide +kernel)) (oaC (oddL (cC (cI (v := .int 1)) (cC (cI (v := .int 2)) (cC (cI (v := .int 3)) cZ))) (by decide +kernel)) (oaC (oddT (cC (cI (v := .int 1)) (cC (cI (v := .int 2)) (cC (cI (v := .bl true)) cZ))) (by decide +kernel)) (oaC (oddT (cC (cI (v := .int 1)) (cC (cI (v := .non)) (cC (cI (v := .int 2)) cZ))) (by decide +kernel)) (oaC (oddT (cC (cI (v := .int 1)) (cC (cI (v := .int 2)) (cC (cI (v := .int 3)) (cC (cI (v := .int 4)) cZ)))) (by decide +kernel)) (oaC (oddT (cC (cN (i := 5)) (cC (cI (v := .int 7)) (cC (cI (v := .int 3)) cZ))) (by decide +kernel)) oaZ))))))))))
    have A3 : OddA K _ _ := (oaC (oddN1 (cC (cI (v := .int 1)) (cC (cI (v := .int 2)) (cC (cI (v := .int 3)) cZ))) (by decide +kernel)) (oaC (oddT (cC (cI (v := .bl true)) (cC (cI (v := .int 1)) cZ)) (by decide +kernel)) (oaC (oddT (cC (cI (v := .str "1")) (cC (cI (v := .int 2)) (cC (cI (v := .int 3)) cZ))) (by decide +kernel)) (oaC (oddN2 (cC (cI (v := .int 0)) (cC (cI (v := .int 0)) (cC (cI (v := .int 1)) cZ))) (cC (cI (v := .int 1)) (cC (cI (v := .int 0)) (cC (cI (v := .int 1)) cZ))) (by decide +kernel)) oaZ))))
    refine w_seq (oddLst A1 (by decide) _ _ _ fun p xs H1 s1 hp l1 o1 => w_nm ?_)
    refine w_seq (w_opv (v := .ref p) rfl (oddLst A2 (by decide) _ _ _ fun p2 xs2 H2 s2 hp2 l2 o2 => ?_))
    refine ⟨p, p2, xs, xs2, rfl, rfl, s2 _ _ hp, hp2, by rw [l1, l2]; decide, fun p3 hp3 => w_nm ?_⟩
    have t3 := same_new (p := p3) (o := HO.lst (xs ++ xs2)) hp3
    refine w_ret1 (v := .ref u) rfl (w_opv (v := .ref p3) rfl (oddLst A3 (by decide) _ _ _ fun p4 xs4 H4 s4 hp4 l4 o4 => ?_))
    refine ⟨p3, p4, xs ++ xs2, xs4, rfl, rfl, s4 _ _ upd_same, hp4, by rw [List.length_append, l1, l2, l4]; decide, fun p5 hp5 => ?_⟩
    have t5 := same_new (p := p5) (o := HO.lst (xs ++ xs2 ++ xs4)) hp5
    refine ⟨u, p5, _, rfl, ?_, upd_same, by rw [List.length_append, List.length_append, l1, l2, l4]; decide, by rw [List.length_append, List.length_append, l1, l2, l4]; decide, fun x H6 hx s6 => ?_⟩
    · exact (s1.trans (s2.trans (t3.trans (s4.trans t5)))) _ _ hu
    · refine q x H6 (s1.trans (s2.trans (t3.trans (s4.trans (t5.trans s6))))) ?_
      rcases List.mem_append.mp
            hx with hx | hx
      · rcases List.mem_append.mp
            hx with hx | hx
        · exact (o1 x hx).mono (Same.refl _) (s2.trans (t3.trans (s4.trans (t5.trans s6))))
        · exact (o2 x hx).mono s1 (t3.trans (s4.trans (t5.trans s6)))
      · exact (o4 x hx).mono (s1.trans (s2.trans t3)) (t5.trans s6)
end
end K7

set_option
      maxHeartbeats 2000000
namespace K7
open PySem L2 Ur LamX PyProof.Rows
/-! ### what is due -/
abbrev It4 := Str × V × Bool × Str
def dueD : List It4 → PyData
  | [] => .list [.str "let"]
  | (wd, _, b, t) :: r => if b then dueD r else .list [.str wd, .str t]
def dueV : List It4 → List V
  | [] => [.str "let"]
  | (wd, _, b, t) :: r => if b then dueV r else [.str wd, .str t]
/-- x under the word wd: b whether it is such a one, t its text -/
structure Rd4 (K : PySem.W.Frag) (H : Hp) (i : It4) : Prop where
  is : ∃ k xs, Odd K H i.2.1 k xs i.2.2.2 ∧ ((i.1 = "point" ∧ i.2.2.1 = (k == .tup && isPt xs)) ∨ (i.1 = "fraction" ∧ i.2.2.1 = (k == .tup && isFr xs)))
theorem Rd4.ext {K : PySem.W.Frag} {H H' : Hp} {i : It4} (h : Rd4 K H i) (e : ExtN H H') : Rd4 K H' i := let ⟨⟨k, xs, o, z⟩⟩ := h; ⟨⟨k, xs, o.ext e, z⟩⟩
structure Rw (K : PySem.W.Frag) (H : Hp) (v : V) (i : It4) : Prop where
  at_ : ∃ a, v = .ref a ∧ SqT K H a [.str i.1, i.2.1]
  is : Rd4 K H i
theorem Rw.ext {K : PySem.W.Frag} {H H' : Hp} {v : V} {i : It4} (h : Rw K H v i) (e : ExtN H H') : Rw K H' v i := let ⟨⟨a, e1, e2⟩, z⟩ := h; ⟨⟨a, e1, ext_sqT e e2⟩, z.ext e⟩
def Rws (K : PySem.W.Frag) (H : Hp) (vs : List V) (is : List It4) : Prop := vs.length = is.length ∧ ∀ (j : Nat) (v : V) (i : It4), vs[j]? = some v → is[j]? = some i → Rw K H v i
theorem Rws.ext {K : PySem.W.Frag} {H H' : Hp} {vs : List V} {is : List It4} (h : Rws K H vs is) (e : ExtN H H') : Rws K H' vs is := ⟨h.1, fun j v i h1 h2 => (h.2 j v i h1 h2).ext e⟩
theorem dueV_drop {is : List It4} {j : Nat} {i : It4} (h : is[j]? = some i) : dueV (is.drop j) = if i.2.2.1 then dueV (is.drop (j + 1)) else [.str i.1, .str i.2.2.2] := by
  obtain ⟨hj, rfl⟩ := List.getElem?_eq_some_iff.mp h
  rw [List.drop_eq_getElem_cons hj]
  rfl
theorem due_dp {K : PySem.W.Frag} {H : Hp} {p : Addr} : ∀ {is : List It4}, H p = some (.lst (dueV is)) → Dp K H (.ref p) (dueD is)
  | [], h => .lst (SqL.of h) (.cons (.str _) .nil)
  | (wd, _, true, t) :: r, h => due_dp (is := r) h
  | (wd, _, false, t) :: r, h => .lst (SqL.of (xs := [.str wd, .str t]) h) (.cons (.str wd) (.cons (.str t) .nil))
theorem due_lay {K : PySem.W.Frag} {H : Hp} : ∀ {is : List It4}, (∀ i ∈ is, Rd4 K H i) → (dueD is).canLay0 = true ∧ (dueD is).depth = 1
  | [], _ => ⟨by decide +kernel, by decide +kernel⟩
  | (wd, _, true, t) :: r, h => due_lay (is := r) fun i hi => h i (List.mem_cons_of_mem _ hi)
  | (wd, x, false, t) :: r, h => by
    obtain ⟨⟨k, xs, O, z⟩⟩ := h _ List.mem_cons_self
    have ht := O.tx
    dsimp only at ht z
    refine ⟨?_, rfl⟩
    show ((PyData.str wd).canLay0 && ((PyData.str t).canLay0 && true)) = true
    rw [ht]
    rcases z with ⟨rfl, _⟩ | ⟨rfl, _⟩ <;> decide +kernel
theorem iteT {c : Bool} {a b : Prop} (h : c = true) (x : a) : if c = true then a else b := by rw [if_pos h]; exact x
theorem iteF {c : Bool} {a b : Prop} (h : c = false) (x : b) : if c = true then a else b := by rw [if_neg (by rw [h]; decide)]; exact x
def tIfT (t ta tb : TT) : TT := fun σ H Q => t σ H fun c H1 => if c = true then ta σ H1 Q else tb σ H1 Q
theorem pt_ifExp {X : Cx} {c a b : Expr} {tA ta tb : TT} {pos : Pos} (hc : PT X c tA) (ha : PT X a ta) (hb : PT X b tb) : PT X (.IfExp c a b pos) (tIfT tA ta tb) := by
  refine ⟨fun pins
        s σ H Q I h => ?_⟩
  refine isTrue_IfExp (thn (hc.run pins s σ H _ I h) fun d s1 ⟨H1, I1, q1⟩ => ?_)
  cases d
  · exact PT.run hb pins s1 σ H1 Q I1 q1
  · exact PT.run ha pins s1 σ H1 Q I1 q1
section
variable {P : Program} {w : World} {K :
      PySem.W.Frag} {mg : Str → Option Value} {base : Heap}
abbrev sDue : Stmt := top 50
abbrev n_law_due : List Str := ["_law_row", "_law_word", "_law_thing"]
abbrev p_law_due : List Str := ["_law_row"]
theorem sc_law_due : FnScope n_law_due p_law_due (defScope sDue) := ⟨rfl, rfl, rfl, by decide +kernel, rfl, by decide +kernel, by decide +kernel⟩
def spDue (K : PySem.W.Frag) : Sp := fun vs H Q _ => ∃ (l : Addr) (rows : List V) (is : List It4), vs = [.ref l] ∧ H l = some (.lst rows) ∧ Rws K H rows is ∧ ∀ p H', Same H H' → H' p = some (.lst (dueV is)) → Q (.ref p) H'
theorem ok_due {f : Addr} {fd : FuncData} (F : Fun K "_law_due" "_law_due" sDue f fd) (Tr : mg "repr" = none) (H_law_is_spot : Has P w K mg base "_law_is_spot" n_lthing 3 (spTold K isPt)) (H_law_is_frac : Has P w K mg base "_law_is_frac" n_lthing 3 (spTold K isFr)) :
    FnG P w K mg base CX0 4 f fd p_law_due (spDue K) := by
  refine okG F sc_law_due (fun vs H Q E h => ?_) (fun cdv A outer s H vs Q E hg hr h => ?_)
  · obtain ⟨l, _, _, rfl, _⟩ := h
    rfl
  · obtain ⟨l, rows, is, rfl, hl, hR, q⟩ := h
    have hu := hr.units
    refine ⟨_, (pss_cons (ps_for PassesOwn.never rfl (pi_list (pv 0)) (pg_tup rfl (pgs_cons (pg_name (i := 1) sc_law_due.nd rfl (Or.inl rfl)) (pgs_cons (pg_name (i := 2) sc_law_due.nd rfl (Or.inl rfl)) pgs_nil))) (pss_one (ps_if (pt_not (pt_ifExp (pt_cmpR (op_eqD hu) (pv 1) pe_str (nomark _)) (pt_val (pe_has H_law_is_spot (hr.mono (by decide)) (by rfl) (pa_cons (pv 2) pa_nil))) (pt_val (pe_has H_law_is_frac (hr.mono (by decide)) (by rfl) (pa_cons (pv 2) pa_nil))))) (pss_one (ps_ret (pe_lst (pa_cons (pv 1) (pa_cons (pe_callB (call_rp hg hu) (by rfl) Tr PyProof.Rows.boot_repr (pa_cons (pv 2) pa_nil)) pa_nil))))) pss_nil)))
      (pss_one (ps_ret (pe_lst (pa_cons pe_str pa_nil))))), ?_⟩
    refine ⟨_, rfl, l, rfl, ⟨rows, SqL.of hl⟩, for_list (xs := rows) (fun j σ H' => ∃ v1 v2 : Option V, σ = [some (.ref l), v1, v2] ∧ Same H H' ∧ dueV is = dueV (is.drop j)) ⟨none, none, rfl, Same.refl _, rfl⟩ (fun j σ H' _ ⟨_, _, _, s0, _⟩ => SqL.of (s0 _ _ hl)) ?_ ?_⟩
    · rintro j x σ H0 hj ⟨v1, v2, rfl, s0, eD⟩
      have hj' : j < is.length := by rw [← hR.1]; exact (List.getElem?_eq_some_iff.mp hj).1
      have R0 := (hR.2 j x is[j] hj (List.getElem?_eq_getElem hj')).ext (ext_same s0)
      have eS := dueV_drop (List.getElem?_eq_getElem hj')
      generalize is[j] = it at R0 eS
      obtain ⟨wd, y, b, t⟩ := it
      obtain ⟨⟨a, rfl, ha⟩, ⟨⟨k, xs, O, hw⟩⟩⟩ := R0
      dsimp only at ha O hw eS
      refine ⟨a, _, rfl, ha, rfl, _, _, rfl, _, _, rfl, rfl, ?_⟩
      have hA := O.vo.arg
      have hRp := O.rp
      rcases hw with ⟨rfl, eb⟩ | ⟨rfl, eb⟩
      · refine ⟨_, rfl, _, _, .str _, .str _, by decide +kernel, by decide +kernel, _, rfl, ?_⟩
        refine iteT (by decide +kernel) ?_
        refine ⟨_, rfl, y, k, xs, rfl, hA, fun H2 s2 => ⟨_, rfl, ?_⟩⟩
        rw [← eb]
        clear eb
        cases b with
        | true => exact iteF rfl ⟨_, _, rfl, s0.trans s2, eD.trans eS⟩
        | false =>
          refine iteT rfl ?_
          refine ⟨_, rfl, _, rfl, y, t, rfl, hRp.ext (ext_same s2), by show 2 ≤ sizeLine; decide, fun p hp => q p _ ((s0.trans s2).trans (same_new hp)) ?_⟩
          rw [eD, eS, if_neg (by decide)]
          exact upd_same
      · refine ⟨_, rfl, _, _, .str _, .str _, by decide +kernel, by decide +kernel, _, rfl, ?_⟩
        refine iteF (by decide +kernel) ?_
        refine ⟨_, rfl, y, k, xs, rfl, hA, fun H2 s2 => ⟨_, rfl, ?_⟩⟩
        rw [← eb]
        clear eb
        cases b with
        | true => exact iteF rfl ⟨_, _, rfl, s0.trans s2, eD.trans eS⟩
        | false =>
          refine iteT rfl ?_
          refine ⟨_, rfl, _, rfl, y, t, rfl, hRp.ext (ext_same s2), by show 2 ≤ sizeLine; decide, fun p hp => q p _ ((s0.trans s2).trans (same_new hp)) ?_⟩
          rw [eD, eS, if_neg (by decide)]
          exact upd_same
    · rintro σ H' ⟨v1, v2, rfl, s0, eD⟩
      refine ⟨by show 1 ≤ sizeLine; decide, fun p hp => q p _ (s0.trans (same_new hp)) ?_⟩
      rw [eD, List.drop_eq_nil_of_le (by rw [hR.1]; exact Nat.le_refl _)]
      exact upd_same
end
end K7

set_option
      maxHeartbeats 2000000
namespace K7
open PySem L2 Ur LamX PyProof.Rows
theorem takes_len {X : Cx} {W : WX} (t : Takes X W) : Takes X (fun cls d σ H => σ.length = X.N.length → W cls d σ H) := fun u s' ⟨a, B, sI, pins, σ, H, cls, d, e, I, nb, up, sky, na, os, ag, w⟩ =>
  t u s' ⟨a, B, sI, pins, σ, H, cls, d, e, I, nb, up, sky, na, os, ag, w I.len⟩
/-! ### what is told -/
abbrev sTold : Stmt := top 49
abbrev n_law_told : List Str := ["_law_call", "raised"]
abbrev p_law_told : List Str := ["_law_call"]
theorem sc_law_told : FnScope n_law_told p_law_told (defScope sTold) := ⟨rfl, rfl, rfl, by decide +kernel, rfl, by decide +kernel, by decide +kernel⟩
def Ech2 (K : PySem.W.Frag) (CP CF : Addr) (Q : VK) : XK := fun cls d H' => ∃ (C : Addr) (wd : Str) (dd : Addr) (x : V) (t : Str), cls = .ref C ∧ d = some dd ∧ H' dd = some (.xd [("given", x)]) ∧ Rp K H' x t ∧ ((C = CP ∧ wd = "point") ∨ (C = CF ∧ wd = "fraction")) ∧
  ∀ p, H' p = none → Q (.ref p) (upd H' p (.lst [.str wd, .str t]))
def TT2 (K : PySem.W.Frag) (CP CF : Addr) : (XK → Hp → VK → Prop) → Hp → VK → Prop := fun tl H Q =>
  tl (Ech2 K CP CF Q) H fun _ H' => [V.str "let"].length ≤ sizeLine ∧ ∀ p, H' p = none → Q (.ref p) (upd H' p (.lst [.str "let"]))
structure ErrX (K : PySem.W.Frag) (CP CF : Addr) : Prop where
  pp : PySem.W.exmOne K (.ref CP) (.ref CP) = some true
  fp : PySem.W.exmOne K (.ref CF) (.ref CP) = some false
  ff : PySem.W.exmOne K (.ref CF) (.ref CF) = some true
  xp : XfC K CP
  xf : XfC K CF
  np : PySem.W.findIn K (.ref CP) "given" = some none
  nf : PySem.W.findIn K (.ref CF) "given" = some none
def tSay (K : PySem.W.Frag) (wd : Str) (C : Addr) : Addr → Value → Option Addr → TS := fun a cls d => tRet (tLst (tCons (tC (.str wd)) (tCons (tCB (rRp K) (tCons (tXf a cls d C "given" (tVar 1)) tNil)) tNil)))
theorem told_gives2 {X : Cx} {g CP CF : Addr} {cdg : Value} {q : Str} (hgu : X.A.guards = some []) (hr : Room (0 + 1) X.A) (EX : ErrX X.K CP CF) (gP : X.mg "InvalidPoint" = some (.ref CP)) (gF : X.mg "InvalidFraction" = some (.ref CF)) (Tr : X.mg "repr" = none) :
    GivesTo X n_law_told "_law_told" (defScope sTold) g cdg (defBody sTold) "_law_call" q (TT2 X.K CP CF) := by
  intro f c' s H Q tl act hc h
  have hu := (hr.deeper (envOfC "_law_told" (defScope sTold) s.heap.objs.size g cdg)).units
  refine ⟨_, pss_cons (ps_try_cl (X := (cxOf C8.CX0 X.prog X.w X.K X.mg X.base n_law_told "_law_told" (defScope sTold) g cdg X.A X.stack s H C8.E0).nox) (n := "raised") (i := 1)
      (l := [(.ref CP, tSay X.K "point" CP), (.ref CF, tSay X.K "fraction" CF)]) (W0 := fun _ _ _ _ => False)
      (tb := fun W D σ H => ∃ Ech : XK, (∀ cls d σ' H', Ech cls d H' → σ'.length = 2 → W cls d σ' H') ∧ σ[0]? = some (some (.ref f)) ∧ H c' = some (CodeO c' q) ∧ tl Ech H fun _ H1 => D.nx σ H1)
      rfl rfl sc_law_told.nd rfl rfl L2.takes0 (fun W pn xe tk => ?_)
      (.more ⟨by rfl, by decide, .inl gP⟩ (fun a oe cls d pn hz hf => pss_one (ps_ret (pe_lst (pa_cons pe_str (pa_cons (pe_callB (call_rp hgu hu) (by rfl) Tr PyProof.Rows.boot_repr (pa_cons (pe_xf EX.xp EX.np hz hf (pv 1)) pa_nil)) pa_nil)))))
        (.more ⟨by rfl, by decide, .inl gF⟩ (fun a oe cls d pn hz hf => pss_one (ps_ret (pe_lst (pa_cons pe_str (pa_cons (pe_callB (call_rp hgu hu) (by rfl) Tr PyProof.Rows.boot_repr (pa_cons (pe_xf EX.xf EX.nf hz hf (pv 1)) pa_nil)) pa_nil))))) .none)))
      (pss_one (ps_ret (pe_lst (pa_cons pe_str pa_nil)))), ?_⟩
  · refine ⟨fun pins s'
        σ H' D I h' => ?_⟩
    obtain ⟨Ech, hW,
          h1, h2, h3⟩ := h'
    refine PSs.run (t := tDrop _) (pss_one (ps_expr (act _ pn xe Ech _ _ (takes_len tk) (fun cls d σ' H' e hl => hW cls d σ' H' e hl)))) pins s' σ H' D I ?_
    exact ⟨h1, h2, h3⟩
  · refine ⟨Ech2 X.K CP CF Q, fun cls d σ' H' e hl => ?_, rfl, hc, h⟩
    obtain ⟨C, wd, dd, x, t, rfl, rfl, hdd, hRp, hw, q9⟩ := e
    match σ', hl with
    | [v0, v1], _ =>
      have say : ∀ (C0 : Addr) (wd0 : Str) (D : Ends), (∀ v H2, D.rt v H2 = Q v H2) → C = C0 → wd = wd0 → ∀ a, tSay X.K wd0 C0 a (.ref C) (some dd) (endsAt 1 D) ([v0, v1].set 1 (some (.ref a))) H' := by
        rintro C0 wd0 D hD rfl rfl a
        refine ⟨_, rfl, rfl, rfl, dd, _, x, rfl, hdd, rfl, x, t, rfl, hRp, by show 2 ≤ sizeLine; decide, fun p hp => ?_⟩
        exact (hD _ _).mpr (q9 p hp)
      rcases hw with ⟨rfl, rfl⟩ | ⟨rfl, rfl⟩
      · exact ⟨true, EX.pp, fun _ a ha => say _ _ _ (fun _ _ => rfl) rfl rfl a, fun z => (by cases z)⟩
      · exact ⟨false, EX.fp, fun z => (by cases z), fun _ => ⟨true, EX.ff, fun _ a ha => say _ _ _ (fun _ _ => rfl) rfl rfl a, fun z => (by cases z)⟩⟩
end K7

set_option
      maxHeartbeats 2000000
namespace K7
open PySem L2 Ur LamX PyProof.Rows
section
variable {P : Program} {w : World} {K :
      PySem.W.Frag} {mg : Str → Option Value} {base : Heap}
/-- a def that asks that no repr runs around it, its code object known -/
theorem okGc {x qual : Str} {st : Stmt} {f c : Addr} {fd : FuncData} {N ps : List Str} {k : Nat} {sp : Sp} (F : Fun K x qual st f fd) (hcode : fd.code = .ref c) (S : FnScope N ps (defScope st))
    (len : ∀ vs H Q E, sp vs H
          Q E → vs.length = ps.length)
    (body : ∀ (A : Around) (outer : List Env) (s : Shared) (H : Hp) (vs : List V) (Q : VK) (E : XK), A.guards = some [] → Room k (A.deeper (envOfC qual (defScope st) s.heap.objs.size f (.ref c))) →
      sp vs H Q E → ∃ t, PSs (cxOf CX0 P w K mg base N qual (defScope st) f (.ref c) A outer s H E).nox (defBody st) t ∧ t { nx := fun _ H' => Q .non H', rt := Q } (L2.start N vs) H) :
    FnG P w K mg base CX0 (k + 1) f fd ps sp := by
  obtain ⟨oc, od, kV, doc, pm, an,
        cdv, ct, osl, rfl, lk, hcd⟩ := F.ex
  obtain rfl : cdv = .ref c := hcode
  refine ⟨len, ?_⟩
  intro A outer s H args us vs Q E hg hr e0 hb r hsp
  have old : ∀ b o, base.get? b = some o → s.heap.get? b = some o := fun b o e => (e0.bs b o e).1
  have KX := e0.mod.kin.keeps old
  apply codeAny_call_function hr.depth (KX _ _ lk) rfl S.co S.gen rfl (PySem.W.codeRec_of KX hcd)
  apply hb
  apply wpAny_newFunctionEnv_cells S.kind
  · rintro ⟨n, v⟩ hy
    have hn := (List.of_mem_zip hy).1
    cases S.par n hn with
    | inl q => exact Or.inl q
    | inr q => exact Or.inr ⟨q, PySem.W.cellsFrom_some _ _ _ (Or.inl q)⟩
  intro env he s1 x
  subst he
  refine ⟨(e0.mod.nolimit.keeps old).keeps x.toInCall.keep, ?_⟩
  apply codeAny_func
  obtain ⟨t, ht, hq⟩ := body A outer s H vs Q E hg (hr.deeper _) hsp
  have I := inv_start (CX := CX0) (E := E) S hr.hd e0 (len _ _ _ _ hsp) r x
  refine wpAny_mono (ht.nox.run [] s1 (L2.start N vs) H _ I hq) ?_ (fun _ _ z => z)
  intro fl s' hs
  match fl, hs with
  | .ret u, ⟨v, _, H', J, rv, q⟩ => exact ⟨v, H', J.os, J.bare, J.base, J.hok, rv, q⟩
  | .next, ⟨_, H', J, q⟩ => exact ⟨V.non, H', J.os, J.bare, J.base, J.hok, rfl, q⟩
  | .brk, ⟨_, _, _, q⟩ => exact False.elim q
  | .cont, ⟨_, _, _, q⟩ => exact False.elim q
/-- all that a call of _law_told with a lambda asks of the module -/
structure ToldIn (K : PySem.W.Frag) (mg : Str → Option Value) (base : Heap) (c T CP CF : Addr) : Prop where
  fn : ∃ g fd, Fun K "_law_told" "_law_told" sTold g fd ∧ mg "_law_told" = some (.ref g) ∧ PySem.W.keepIn K (.ref g) = true ∧ Binds K fd p_law_told []
  ex : ErrX K CP CF
  gP : mg "InvalidPoint" = some (.ref CP)
  gF : mg "InvalidFraction" = some (.ref CF)
  re : mg "repr" = none
  tb : TabB base mg c T
end
theorem pe_told {X : Cx} {c T CP CF : Addr} {k : Nat} {params : Arguments} {body : Expr} {scope : Scope} {t : XK → TE} {p lpos pos : Pos} (Z : ToldIn X.K X.mg X.base c T CP CF) (hgu : X.A.guards = some []) (hg : Gl X "_law_told") (hcode : X.env.code = .ref c) (hr : Room (k + 2) X.A)
    (L : LamS X.env.scope scope) (hdef : defaultsOf params X.env = ([], [])) (hbind : ∀ (q : Str) (cl : List (Str × Addr)) (pm cv ctv : Value), bindArgs (PySem.W.kla_fn "<lambda>" q params body scope cl pm cv ctv) ⟨[], []⟩ = pure [])
    (hbody : ∀ (A : Around) (outer : List Env) (s : Shared) (H : Hp) (E : XK) (f c' : Addr), Room k (A.deeper (lamEnv X scope s.heap.objs.size f c')) → PE (lamCx X A outer s H E scope f c') body (t E)) :
    PE X (.Call (.Name "_law_told" p) [.Lambda params body scope lpos] [] pos) (tLam [(T, X.env.qual ++ "<lambda>")] (TT2 X.K CP CF) t) := by
  obtain ⟨g, fd, F, m, kp, b⟩ := Z.fn
  obtain ⟨oc, od, kV, doc, pm, an,
        cdv, ct, osl, rfl, lk, hcd⟩ := F.ex
  refine pe_lamcall (a := "_law_call") (c := c) (P := T) (k := k) (Ng := n_law_told) hg m kp lk hcd b sc_law_told (by rfl) (Or.inl rfl) ?_ Z.tb hcode (List.mem_singleton.mpr rfl) (fun p hp _ => by rw [List.mem_singleton.mp hp]) hr L hdef hbind hbody
  exact told_gives2 hgu (hr.mono (by omega)) Z.ex Z.gP Z.gF Z.re
end K7

set_option
      maxHeartbeats 2000000
namespace K7
open PySem L2 Ur LamX PyProof.Rows
def Ql (Q : VK) : VK := fun _ H' => [V.str "let"].length ≤ sizeLine ∧ ∀ p, H' p = none → Q (.ref p) (upd H' p (.lst [.str "let"]))
def fz (e : Addr × It4) : Addr × V × Bool := (e.1, e.2.2.1, e.2.2.2.1)
theorem fate_due {K : PySem.W.Frag} {CP CF : Addr} {Q : VK} {H : Hp} : ∀ l : List (Addr × It4), (∀ e ∈ l, (e.1 = CP ∧ e.2.1 = "point") ∨ (e.1 = CF ∧ e.2.1 = "fraction")) → (∀ e ∈ l, Rd4 K H e.2) →
    (∀ p H', Same H H' → H' p = none → Q (.ref p) (upd H' p (.lst (dueV (l.map (·.2)))))) → Fate H (Ql Q) (Ech2 K CP CF Q) (l.map fz)
  | [], _, _, q => fun _ H' s => ⟨by show 1 ≤ sizeLine; decide, fun p hp => q p H' s hp⟩
  | (C, (wd, x, b, t)) :: r, hc, hR, q => by
    refine ⟨fun hb => fate_due r (fun e he => hc e (List.mem_cons_of_mem _ he)) (fun e he => hR e (List.mem_cons_of_mem _ he)) fun p H' s hp => ?_, fun hb d H' s hd => ?_⟩
    · have := q p H' s hp
      obtain rfl : b = true := hb
      exact this
    · obtain rfl : b = false := hb
      obtain ⟨⟨k, xs, O, _⟩⟩ := hR _ List.mem_cons_self
      exact ⟨C, wd, d, x, t, rfl, rfl, hd, O.rp.ext (ext_same s), hc _ List.mem_cons_self, fun p hp => q p H' s hp⟩
/-- a call of _law_told with a lambda whose call's fate is known -/
theorem lam_ok {K : PySem.W.Frag} {CP CF : Addr} {T : List (Addr × Str)} {t : XK → TE} {σ : L2.St} {H : Hp} {Q : VK} (l : List (Addr × It4)) (hc : ∀ e ∈ l, (e.1 = CP ∧ e.2.1 = "point") ∨ (e.1 = CF ∧ e.2.1 = "fraction")) (hT : Tabs T H) (hR : ∀ e ∈ l, Rd4 K H e.2)
    (ht : ∀ (E : XK) (H1 : Hp) (Q' : VK), ExtN H H1 → Fate H1 Q' E (l.map fz) → t E σ H1 Q')
    (q : ∀ p H', ExtN H H' → Tabs T H' → (∀ a xs, H a = some (.lst xs) → p ≠ a) → H' p = some (.lst (dueV (l.map (·.2)))) → Q (.ref p) H') : tLam T (TT2 K CP CF) t σ H Q := by
  refine ⟨hT, fun H1 e T1 => ht _ H1 (Ql Q) e (fate_due l hc (fun x hx => (hR x hx).ext e) fun p H' s hp => ?_)⟩
  refine q p _ (e.trans (ext_same (s.trans (same_new hp)))) (T1.ext (s.trans (same_new hp))) (fun a xs ha z => ?_) upd_same
  subst z
  have := s _ _ (xto e ha)
  rw [hp] at this
  cases this
/-! ### the rows for _law_due -/
def RowA (K : PySem.W.Frag) (σ : L2.St) (ta : TA) (is : List It4) : Prop := ∀ (H : Hp) (Q : List V → Hp → Prop), (∀ i ∈ is, Rd4 K H i) → (∀ vs H', Same H H' → Rws K H' vs is → Q vs H') → ta σ H Q
theorem rwZ {K : PySem.W.Frag} {σ : L2.St} : RowA K σ tNil [] := fun H Q _ q => q [] H (Same.refl H) ⟨rfl, fun j v i h => by simp at h⟩
theorem rwC {K : PySem.W.Frag} {σ : L2.St} {j : Nat} {wd : Str} {x : V} {b : Bool} {t : Str} {ta : TA} {is : List It4} (hx : σ[j]? = some (some x)) (h : RowA K σ ta is) : RowA K σ (tCons (tTup (tCons (tC (.str wd)) (tCons (tVar j) tNil))) ta) ((wd, x, b, t) :: is) := by
  intro H Q hR q
  refine ⟨x, hx, by show 2 ≤ sizeLine; decide, fun p hp => ?_⟩
  have s1 := same_new (p := p) (o := HO.tup [.str wd, x]) hp
  have hS : SqT K (upd H p (.tup [.str wd, x])) p [.str wd, x] := SqT.of upd_same
  refine h _ _ (fun i hi => (hR i (List.mem_cons_of_mem _ hi)).ext (ext_same s1)) fun vs H' s2 R => q _ H' (s1.trans s2) ⟨by simp [R.1], fun j v i h1 h2 => ?_⟩
  cases j with
  | zero =>
    simp at h1 h2
    subst h1
    subst h2
    exact ⟨⟨p, rfl, same_sqT s2 hS⟩, (hR _ List.mem_cons_self).ext (ext_same (s1.trans s2))⟩
  | succ j => exact R.2 j v i (by simpa using h1) (by simpa using h2)
theorem due_call {K : PySem.W.Frag} {σ : L2.St} {ta : TA} {is : List It4} {H : Hp} {Q : VK} (h : RowA K σ ta is) (hl : is.length ≤ 10) (hR : ∀ i ∈ is, Rd4 K H i) (q : ∀ p H', Same H H' → H' p = some (.lst (dueV is)) → Q (.ref p) H') : tCall (spDue K) [] E0 (tCons (tLst ta) tNil) σ H Q := by
  refine h H _ hR fun vs H1 s1 R => ⟨by rw [R.1]; exact Nat.le_trans hl (by decide), fun p hp => ?_⟩
  have s2 := same_new (p := p) (o := HO.lst vs) hp
  exact ⟨p, vs, is, rfl, upd_same, R.ext (ext_same s2), fun p2 H2 s3 h2 => q p2 H2 (s1.trans (s2.trans s3)) h2⟩
theorem due_shaped {K : PySem.W.Frag} {H : Hp} {is : List It4} (hR : ∀ i ∈ is, Rd4 K H i) : SeqAt.shaped (dueD is) = true := by
  obtain ⟨a, b⟩ := due_lay hR
  unfold SeqAt.shaped
  rw [a, b]
  rfl
theorem ne_due {K : PySem.W.Frag} {H : Hp} {is : List It4} {p p' : Addr} {Q : VK} (hR : ∀ i ∈ is, Rd4 K H i) (h : H p = some (.lst (dueV is))) (h' : H p' = some (.lst (dueV is))) (q : Q (.bl false) H) : rNeD K (.ref p) (.ref p') H Q := by
  refine ⟨_, _, due_dp h, due_dp h', due_shaped hR, due_shaped hR, ?_⟩
  rw [SeqAt.eqv_refl _ (due_lay hR).1]
  exact q
/-- four of them in lists -/
def fourD (is : List It4) : PyData := .list [dueD is, dueD is, dueD is, dueD is]
theorem four_dp {K : PySem.W.Frag} {H : Hp} {is : List It4} {l a b c d : Addr} (h : H l = some (.lst [.ref a, .ref b, .ref c, .ref d])) (ha : H a = some (.lst (dueV is))) (hb : H b = some (.lst (dueV is))) (hc : H c = some (.lst (dueV is))) (hd : H d = some (.lst (dueV is))) : Dp K H (.ref l) (fourD is) :=
  .lst (SqL.of h) (.cons (due_dp ha) (.cons (due_dp hb) (.cons (due_dp hc) (.cons (due_dp hd) .nil))))
theorem four_lay {K : PySem.W.Frag} {H : Hp} {is : List It4} (hR : ∀ i ∈ is, Rd4 K H i) : (fourD is).canLay0 = true ∧ SeqAt.shaped (fourD is) = true := by
  obtain ⟨a, b⟩ := due_lay hR
  have z : (fourD is).canLay0 = true := by
    show ((dueD is).canLay0 && ((dueD is).canLay0 && ((dueD is).canLay0 && ((dueD is).canLay0 && true)))) = true
    rw [a]
    rfl
  refine ⟨z, ?_⟩
  unfold SeqAt.shaped
  rw [z]
  show (true && decide (max (dueD is).depth (max (dueD is).depth (max (dueD is).depth (max (dueD is).depth 0))) + 1 ≤ 64)) = true
  rw [b]
  rfl
theorem ne_four {K : PySem.W.Frag} {H : Hp} {is : List It4} {l m : Addr} {Q : VK} (hR : ∀ i ∈ is, Rd4 K H i) (h : Dp K H (.ref l) (fourD is)) (h' : Dp K H (.ref m) (fourD is)) (q : Q (.bl false) H) : rNeD K (.ref l) (.ref m) H Q := by
  refine ⟨_, _, h, h', (four_lay hR).2, (four_lay hR).2, ?_⟩
  rw [SeqAt.eqv_refl _ (four_lay hR).1]
  exact q
theorem ext_own {H H' : Hp} {p : Addr} {o : HO} (e : ExtN H H') (h : H p = none) : ExtN H (upd H' p o) := fun b u q n => by
  rw [upd_ne (ne_of_none q h)]
  exact e b u q n
/-! ### the values of a turn: the given ones, at times an odd one instead -/
def Off (K : PySem.W.Frag) (D : Addr) (H' : Hp) (y : V) : Prop := ∃ A : Hp, Same A H' ∧ A D = none ∧ IsOdd K A y
theorem Off.same {K : PySem.W.Frag} {D : Addr} {H H' : Hp} {y : V} (h : Off K D H y) (s : Same H H') : Off K D H' y := let ⟨A, a, b, o⟩ := h; ⟨A, a.trans s, b, o⟩
theorem Off.upd {K : PySem.W.Frag} {D : Addr} {H : Hp} {y : V} {o : HO} (h : Off K D H y) : Off K D (upd H D o) y := let ⟨A, a, b, i⟩ := h; ⟨A, same_own a b, b, i⟩
theorem Off.odd {K : PySem.W.Frag} {D : Addr} {H : Hp} {y : V} (h : Off K D H y) : IsOdd K H y := let ⟨A, a, b, i⟩ := h; i.ext (ext_same a)
end K7

set_option
      maxHeartbeats 2000000
namespace K7
open PySem L2 Ur LamX PyProof.Rows
theorem w_if {c : TT} {t u rest : TS} {D : Ends} {σ : L2.St} {H : Hp} (h : c σ H fun b H1 => if b = true then t { D with nx := rest D } σ H1 else u { D with nx := rest D } σ H1) : tSeq (tIfS c t u) rest D σ H := h
theorem tabs_upd {T : List (Addr × Str)} {H : Hp} {l : Addr} {xs ys : List V} (hl : H l = some (.lst xs)) (t : Tabs T H) : Tabs T (upd H l (.lst ys)) := by
  intro p hp
  obtain ⟨ps, h1, h2, h3⟩ := t p hp
  have e : ∀ b o, H b = some o → (∀ zs, o ≠ .lst zs) → upd H l (.lst ys) b = some o := fun b o h n => by
    rw [upd_ne (fun z => ?_)]
    · exact h
    · subst z
      rw [hl] at h
      exact n _ (Option.some.inj h).symm
  refine ⟨ps, e _ _ h1 (fun zs z => by cases z), h2, fun pos cv hc => ?_⟩
  obtain ⟨c, e1, e2⟩
        := h3 pos cv hc
  exact ⟨c, e1, e _ _ e2 (fun zs z => by unfold CodeO at z; cases z)⟩
section
variable {K : PySem.W.Frag} {CP CF : Addr} {TT : List (Addr × Str)} {t : XK → TE} {σ : L2.St} {H0 G : Hp}
/-- the list l of what was told, behind H0 -/
structure Ls (TT : List (Addr × Str)) (H0 G : Hp) (l : Addr) (ps : List Addr) (is : List It4) : Prop where
  ls : G l = some (.lst (ps.map V.ref))
  its : ∀ p ∈ ps, p ≠ l ∧ G p = some (.lst (dueV is))
  ext : ExtN H0 G
  tabs : Tabs TT G
  off : ∀ b o, H0 b = some o → (∀ ps, o ≠ .tbl ps) → b ≠ l
theorem w_told1 {rest : TS} {D : Ends} (es : List (Addr × It4)) (hc : ∀ e ∈ es, (e.1 = CP ∧ e.2.1 = "point") ∨ (e.1 = CF ∧ e.2.1 = "fraction")) (hT : Tabs TT H0) (hR : ∀ e ∈ es, Rd4 K H0 e.2)
    (ht : ∀ (E : XK) (H1 : Hp) (Q' : VK), ExtN H0 H1 → Fate H1 Q' E (es.map fz) → t E σ H1 Q') (q : ∀ G l p, Ls TT H0 G l [p] (es.map (·.2)) → rest D (σ.set 8 (some (.ref l))) G) :
    tSeq (tAsg (tLst (tCons (tLam TT (TT2 K CP CF) t) tNil)) (gName 8)) rest D σ H0 := by
  show tLam TT (TT2 K CP CF) t σ H0 fun x H1 => [x].length ≤ sizeLine ∧ ∀ l, H1 l = none → rest D (σ.set 8 (some (.ref l))) (upd H1 l (.lst [x]))
  refine lam_ok es hc hT hR ht fun p H1 e1 T1 hne h1 => ⟨by show 1 ≤ sizeLine; decide, fun l hl => q _ l p ?_⟩
  have n1 : p ≠ l := (ne_of_none' hl h1).symm
  refine ⟨upd_same, fun p' hp' => ?_, fun b o h n => ?_, T1.ext (same_new hl), fun b o h n z => ?_⟩
  · obtain rfl := List.mem_singleton.mp hp'
    exact ⟨n1, by rw [upd_ne n1]; exact h1⟩
  · have := e1 b o h n
    rw [upd_ne (ne_of_none' hl this).symm]
    exact this
  · subst z
    have := e1 b o h n
    rw [hl] at this
    cases this
theorem w_app {rest : TS} {D : Ends} {l : Addr} {ps : List Addr} (es : List (Addr × It4)) (L : Ls TT H0 G l ps (es.map (·.2))) (hl : ps.length ≤ 100) (h8 : σ[8]? = some (some (.ref l))) (hc : ∀ e ∈ es, (e.1 = CP ∧ e.2.1 = "point") ∨ (e.1 = CF ∧ e.2.1 = "fraction")) (hR : ∀ e ∈ es, Rd4 K H0 e.2)
    (ht : ∀ (E : XK) (H1 : Hp) (Q' : VK), ExtN H0 H1 → Fate H1 Q' E (es.map fz) → t E σ H1 Q') (q : ∀ G' p, Ls TT H0 G' l (ps ++ [p]) (es.map (·.2)) → rest D σ G') :
    tSeq (tDrop (tBM K "list" rAppend (tVar 8) (tCons (tLam TT (TT2 K CP CF) t) tNil))) rest D σ G := by
  refine ⟨_, h8, Or.inl ⟨rfl, _, SqL.of L.ls⟩, ?_⟩
  refine lam_ok es hc L.tabs (fun e he => (hR e he).ext L.ext) (fun E H1 Q' e f => ht E H1 Q' (L.ext.trans e) f) fun p H1 e1 T1 hne h1 => ?_
  have hl1 := xto e1 L.ls
  refine ⟨l, _, _, rfl, rfl, hl1, by rw [List.length_map]; exact Nat.lt_of_le_of_lt hl (by decide), q _ p ⟨by rw [upd_same, List.map_append]; rfl, fun p' hp' => ?_, fun b o h n => ?_, tabs_upd hl1 T1, L.off⟩⟩
  · rcases List.mem_append.mp hp' with z | z
    · obtain ⟨a, b⟩ := L.its p' z
      exact ⟨a, by rw [upd_ne a]; exact xto e1 b⟩
    · obtain rfl := List.mem_singleton.mp z
      have n1 := hne l _ L.ls
      exact ⟨n1, by rw [upd_ne n1]; exact h1⟩
  · rw [upd_ne (L.off b o h n)]
    exact (L.ext.trans e1) b o h n
theorem w_four {l p7 a b c d : Addr} {is : List It4} {Q : Bool → Hp → Prop} (L : Ls TT H0 G l [a, b, c, d] is) (h8 : σ[8]? = some (some (.ref l))) (h7 : σ[7]? = some (some (.ref p7))) (hp : H0 p7 = some (.lst (dueV is))) (hR : ∀ i ∈ is, Rd4 K H0 i)
    (q : ∀ G', Same G G' → Q false G') : tTest (tOp (rNeD K) (tVar 8) (tOp rRep (tLst (tCons (tVar 7) tNil)) (tC (.int 4)))) σ G Q := by
  refine ⟨_, h8, _, h7, by show 1 ≤ sizeLine; decide, fun pa ha => ⟨pa, 4, [.ref p7], rfl, rfl, upd_same, by decide, by decide, by show 1 * 4 ≤ sizeLine; decide, fun pb hb => ?_⟩⟩
  have s1 := same_new (p := pa) (o := HO.lst [V.ref p7]) ha
  have s2 := same_new (p := pb) (o := HO.lst (List.replicate (4 : Int).toNat [V.ref p7]).flatten) hb
  have s := s1.trans s2
  have g7 := s _ _ (xto L.ext hp)
  have it := fun p hp => s _ _ (L.its p hp).2
  exact ne_four (fun i hi => (hR i hi).ext (L.ext.trans (ext_same s))) (four_dp (s _ _ L.ls) (it a (by simp)) (it b (by simp)) (it c (by simp)) (it d (by simp))) (four_dp upd_same g7 g7 g7 g7) ⟨false, rfl, q _ s⟩
theorem w_ne {ta : TA} {Q : Bool → Hp → Prop} (es : List (Addr × It4)) (hc : ∀ e ∈ es, (e.1 = CP ∧ e.2.1 = "point") ∨ (e.1 = CF ∧ e.2.1 = "fraction")) (hT : Tabs TT G) (hR : ∀ e ∈ es, Rd4 K G e.2) (hl : es.length ≤ 10)
    (ht : ∀ (E : XK) (H1 : Hp) (Q' : VK), ExtN G H1 → Fate H1 Q' E (es.map fz) → t E σ H1 Q') (hrow : RowA K σ ta (es.map (·.2))) (q : ∀ G', ExtN G G' → Tabs TT G' → Q false G') :
    tTest (tOp (rNeD K) (tLam TT (TT2 K CP CF) t) (tCall (spDue K) [] E0 (tCons (tLst ta) tNil))) σ G Q := by
  have hR' : ∀ {H1}, ExtN G H1 → ∀ i ∈ es.map (·.2), Rd4 K H1 i := fun e i hi => by
    obtain ⟨x, hx, rfl⟩ := List.mem_map.mp hi
    exact (hR x hx).ext e
  show tLam TT (TT2 K CP CF) t σ G fun x H1 => tCall (spDue K) [] E0 (tCons (tLst ta) tNil) σ H1 fun y H2 => rNeD K x y H2 fun z H3 => ∃ c, z = .bl c ∧ Q c H3
  refine lam_ok es hc hT hR ht fun p H1 e1 T1 _ h1 => due_call hrow (by simpa using hl) (hR' e1) fun p2 H2 s2 h2 => ?_
  have e2 := e1.trans (ext_same s2)
  exact ne_due (hR' e2) (s2 _ _ h1) h2 ⟨false, rfl, q H2 e2 (T1.ext s2)⟩
theorem odd_or {u : Addr} {te2 : TE} {Q : VK} (hu : G u = some (UrnO u)) (h0 : σ[0]? = some (some (.ref u))) (h2 : ∀ H1, Same G H1 → te2 σ H1 Q) (ho : ∀ x H', Same G H' → New K G H' x → Q x H') :
    tIf (tTest (tOp rEq (tCall spPull [] E0 (tCons (tVar 0) (tCons (tC (.int 3)) tNil))) (tC (.int 0)))) (tCall (spOdd K) [] E0 (tCons (tVar 0) tNil)) te2 σ G Q := by
  refine ⟨_, h0, u, 3, rfl, hu, by decide, by decide, fun r H1 r0 r1 s1 => ?_⟩
  refine ⟨rfl, _, rfl, ?_⟩
  generalize decide (V.int r = V.int 0) = c
  cases c with
  | true => exact iteT rfl ⟨_, h0, u, rfl, s1 _ _ hu, fun x H' s2 n => ho x H' (s1.trans s2) (n.mono s1 (Same.refl _))⟩
  | false => exact iteF rfl (h2 H1 s1)
theorem lcOdd {tl te : TE} {vs : List Nat} {j : Nat} {Q : VK} {a : Addr} {xs : List V} {H : Hp} (hx : ∀ R : VK, R (.ref a) H → tl σ H R) (hs : H a = some (.lst xs)) (hz : xs.length ≤ 1000) (ho : ∀ x ∈ xs, IsOdd K H x) (hw : ∀ x, wipe ((wipe σ vs).set j (some x)) vs = wipe σ vs)
    (he : ∀ (x : V) (H3 : Hp), Same H H3 → ∀ Q' : VK, (∀ y H4, Same H3 H4 → (New K H3 H4 y ∨ y = x) → Q' y H4) → te ((wipe σ vs).set j (some x)) H3 Q')
    (hq : ∀ D ys H', Same H H' → H' D = some (.lst ys) → ys.length = xs.length → (∀ y ∈ ys, IsOdd K H' y) → Q (.ref D) H') : tLc (iList K tl) (gName j) tYes te vs σ H Q := by
  refine hx _ ⟨a, rfl, ⟨xs, SqL.of hs⟩, fun D hD => ?_⟩
  refine lc_list (xs := xs) (fun i H' => Same H H' ∧ ∃ ys, H' D = some (.lst ys) ∧ ys.length = i ∧ ∀ y ∈ ys, Off K D H' y) ⟨same_new hD, [], upd_same, rfl, fun y hy => nomatch hy⟩ (fun i H' _ m => SqL.of (m.1 _ _ hs)) (fun i x H' hi m => ⟨hw x, ?_⟩) (fun H' ⟨sm, ys, h1, h2, h3⟩ => hq D ys H' sm h1 h2 fun y hy => (h3 y hy).odd)
  obtain ⟨sm, ys, h1, h2, h3⟩ := m
  have hl := (List.getElem?_eq_some_iff.mp hi).1
  unfold tYes
  dsimp only
  rw [if_pos rfl]
  refine he x H' sm _ fun y H4 s4 hy => ⟨ys, s4 _ _ h1, Nat.lt_of_lt_of_le (by omega : ys.length < 1001) (by decide), same_own (sm.trans s4) hD, ys ++ [y], upd_same, by simp [h2], fun z hz => ?_⟩
  rcases List.mem_append.mp
        hz with hz | hz
  · exact ((h3 z hz).same s4).upd
  · obtain rfl := List.mem_singleton.mp hz
    rcases hy with ⟨A, ⟨a1, a2⟩, o⟩ | rfl
    · refine Off.upd ⟨A, a1, ?_, o⟩
      cases e : A D with
      | none => rfl
      | some ob =>
        have := a2 D ob e
        rw [h1] at this
        cases this
    · exact Off.upd ⟨H, sm.trans s4, hD, ho _ (List.mem_of_getElem? hi)⟩
theorem odd_or2 {u : Addr} {te2 : TE} {Q : VK} (hu : G u = some (UrnO u)) (h0 : σ[0]? = some (some (.ref u))) (GP : OddE K te2) (q : ∀ x H', Same G H' → IsOdd K H' x → Q x H') :
    tIf (tTest (tOp rEq (tCall spPull [] E0 (tCons (tVar 0) (tCons (tC (.int 3)) tNil))) (tC (.int 0)))) (tCall (spOdd K) [] E0 (tCons (tVar 0) tNil)) te2 σ G Q :=
  odd_or hu h0 (fun H1 s1 => GP σ H1 Q fun x H' s n => q x H' (s1.trans s) n.odd) fun x H' s n => q x H' s n.odd
structure EsOk (K : PySem.W.Frag) (CP CF : Addr) (H : Hp) (es : List (Addr × It4)) : Prop where
  cl : ∀ e ∈ es, (e.1 = CP ∧ e.2.1 = "point") ∨ (e.1 = CF ∧ e.2.1 = "fraction")
  rd : ∀ e ∈ es, Rd4 K H e.2
theorem es_nil {H : Hp} : EsOk K CP CF H [] := ⟨fun e h => (nomatch h), fun e h => (nomatch h)⟩
theorem es_p {H : Hp} {x : V} {b : Bool} {tx : Str} {es : List (Addr × It4)} (R : Rd4 K H ("point", x, b, tx)) (h : EsOk K CP CF H es) : EsOk K CP CF H ((CP, ("point", x, b, tx)) :: es) := by
  refine ⟨fun e he => ?_, fun e he => ?_⟩
  · rcases List.mem_cons.mp
        he with rfl | he
    · exact Or.inl ⟨rfl, rfl⟩
    · exact h.cl e he
  · rcases List.mem_cons.mp
        he with rfl | he
    · exact R
    · exact h.rd e he
theorem es_f {H : Hp} {x : V} {b : Bool} {tx : Str} {es : List (Addr × It4)} (R : Rd4 K H ("fraction", x, b, tx)) (h : EsOk K CP CF H es) : EsOk K CP CF H ((CF, ("fraction", x, b, tx)) :: es) := by
  refine ⟨fun e he => ?_, fun e he => ?_⟩
  · rcases List.mem_cons.mp
        he with rfl | he
    · exact Or.inr ⟨rfl, rfl⟩
    · exact h.cl e he
  · rcases List.mem_cons.mp
        he with rfl | he
    · exact R
    · exact h.rd e he
theorem EsOk.ext {H H' : Hp} {es : List (Addr × It4)} (h : EsOk K CP CF H es) (e : ExtN H H') : EsOk K CP CF H' es := ⟨h.cl, fun x hx => (h.rd x hx).ext e⟩
theorem EsOk.is {H : Hp} {es : List (Addr × It4)} (h : EsOk K CP CF H es) : ∀ i ∈ es.map (·.2), Rd4 K H i := fun i hi => by
  obtain ⟨x, hx, rfl⟩ := List.mem_map.mp hi
  exact h.rd x hx
theorem w_or {t u : L2.TT} {Q : Bool → Hp → Prop} (h : t σ G fun c H1 => if c = true then Q true H1 else u σ H1 Q) : tOr t u σ G Q := h
theorem w_next {rest : TS} {D : Ends} (h : rest D σ G) : tNext { D with nx := rest D } σ G := h
theorem w_ifL {c : L2.TT} {t u : TS} {D : Ends} (h : c σ G fun b H1 => if b = true then t D σ H1 else u D σ H1) : tIfS c t u D σ G := h
end
end K7

set_option
      maxHeartbeats 4000000
namespace K7
open PySem L2 Ur LamX PyProof.Rows
section
variable {P : Program} {w : World} {K :
      PySem.W.Frag} {mg : Str → Option Value} {base : Heap}
abbrev sRight : Stmt := top 51
abbrev n_law_right : List Str := ["_law_urn_here", "_law_step", "_law_good", "_law_a", "_law_b", "_law_c", "_law_part", "_law_pair", "_law_told_here", "_law_mate"]
abbrev p_law_right : List Str := ["_law_urn_here"]
theorem sc_law_right : FnScope n_law_right p_law_right (defScope sRight) := ⟨rfl, rfl, rfl, by decide +kernel, rfl, by decide +kernel, by decide +kernel⟩
abbrev qLam : Str := (envOfC "_law_right" (defScope sRight) 0 0 .none).qual ++ "<lambda>"
def spRight (T : Addr) : Sp := fun vs H Q _ => ∃ u, vs = [.ref u] ∧ H u = some (UrnO u) ∧ Tabs [(T, qLam)] H ∧ ∀ H', ExtN H H' → Tabs [(T, qLam)] H' → Q (.bl true) H'
theorem ok_right {f c TB CP CF : Addr} {fd : FuncData} (F : Fun K "_law_right" "_law_right" sRight f fd) (hcode : fd.code = .ref c) (T : Bl mg) (Z : ToldIn K mg base c TB CP CF) (H_law_pull : Has P w K mg base "_law_pull" ["_law_urn_here", "_law_many"] 1 spPull) (H_law_odd : Has P w K mg base "_law_odd" p_law_odd 3 (spOdd K))
    (HG_law_due : HasG P w K mg base "_law_due" p_law_due 4 (spDue K)) (HX_plus : HasX P w K mg base "plus" p_po 5 (spEPP K CP CF)) (HX_minus : HasX P w K mg base "minus" p_po 5 (spEPP K CP CF)) (HX_inner : HasX P w K mg base "inner" p_po 5 (spEPP K CP CF)) (HX_cross : HasX P w K mg base "cross" p_po 5 (spEPP K CP CF)) (HX_quarter : HasX P w K mg base "quarter" p_p 5 (spEP K CP CF)) (HX_times : HasX P w K mg base "times" p_pf 5 (spEPF K CP CF)) (HX_between : HasX P w K mg base "between" p_pof 5 (spEPPF K CP CF)) (HX_sense : HasX P w K mg base "sense" p_pot 5 (spEPPP K CP CF)) :
    FnG P w K mg base CX0 8 f fd p_law_right (spRight TB) := by
  refine okGc F hcode sc_law_right (fun vs H Q E h => ?_) (fun A outer s H vs Q E hg hr h => ?_)
  · obtain ⟨u, rfl, _⟩ := h
    rfl
  · obtain ⟨u, rfl, hu0, hT, q⟩ := h
    have hu := hr.units
    refine ⟨_, (pss_cons (ps_for PassesOwn.never rfl (pi_range1 (by rfl) T.range (pa_cons pe_int pa_nil)) (pg_name (i := 1) sc_law_right.nd rfl (Or.inl rfl)) (pss_cons (ps_set (i := 2) sc_law_right.nd rfl (Or.inl rfl) (pe_lst (pa_cons (pe_tup (pa_cons pe_int (pa_cons pe_int (pa_cons pe_int pa_nil)))) (pa_cons (pe_tup (pa_cons pe_int (pa_cons pe_int (pa_cons pe_int pa_nil)))) (pa_cons (pe_tup (pa_cons (pe_un un_neg pe_int) (pa_cons pe_int (pa_cons pe_int pa_nil)))) pa_nil)))))
      (pss_cons (ps_asg (pe_lc (own := [("_law_mate", 9)]) (g := gName 9) (tt := tYes) rfl sc_law_right.nd (pi_list (pv 2)) (blkOk_by (N := n_law_right) (sc := defScope sRight) (by decide +kernel)) (fun _ _ _ _ _ => pg_name (i := 9) sc_law_right.nd rfl (Or.inl rfl)) (fun _ _ _ _ _ => pts_nil) (fun _ _ _ _ _ => (pe_ifExp (pt_cmpR op_eq (pe_has H_law_pull (hr.mono (by decide)) (by rfl) (pa_cons (pv 0) (pa_cons pe_int pa_nil))) pe_int (nomark _)) (pe_has H_law_odd (hr.mono (by decide)) (by rfl) (pa_cons (pv 0) pa_nil)) (pv 9)))) (pg_lst rfl (pgs_cons (pg_name (i := 3) sc_law_right.nd rfl (Or.inr rfl)) (pgs_cons (pg_name (i := 4) sc_law_right.nd rfl (Or.inr rfl)) (pgs_cons (pg_name (i := 5) sc_law_right.nd rfl (Or.inr rfl)) pgs_nil)))))
      (pss_cons (ps_set (i := 6) sc_law_right.nd rfl (Or.inr rfl) (pe_ifExp (pt_cmpR op_eq (pe_has H_law_pull (hr.mono (by decide)) (by rfl) (pa_cons (pv 0) (pa_cons pe_int pa_nil))) pe_int (nomark _)) (pe_has H_law_odd (hr.mono (by decide)) (by rfl) (pa_cons (pv 0) pa_nil)) (pe_tup (pa_cons (pe_un un_neg pe_int) (pa_cons pe_int pa_nil)))))
      (pss_cons (ps_set (i := 7) sc_law_right.nd rfl (Or.inl rfl) (pe_hasG HG_law_due hg (hr.mono (by decide)) (by rfl) (pa_cons (pe_lst (pa_cons (pe_tup (pa_cons pe_str (pa_cons (pv 3) pa_nil))) (pa_cons (pe_tup (pa_cons pe_str (pa_cons (pv 4) pa_nil))) pa_nil))) pa_nil)))
      (pss_cons (ps_set (i := 8) sc_law_right.nd rfl (Or.inl rfl) (pe_lst (pa_cons (pe_told (X := (cxOf CX0 P w K mg base n_law_right "_law_right" (defScope sRight) f (.ref c) A outer s H E).nox) (k := 5) Z hg (by rfl) rfl hr (lamS_by (sc := defScope sRight) (by decide +kernel)) rfl (fun _ _ _ _ _ => rfl) (fun A outer s H E f c' hr' => pe_hasX (E := E) HX_plus hr' (takes_of rfl rfl rfl rfl) (fun _ _ _ _ z => z) (by rfl) (pa_cons (pv 3) (pa_cons (pv 4) pa_nil)))) pa_nil)))
      (pss_cons (ps_expr (pe_bm PySem.F.plainAttrs_list PySem.F.slot_list_append PySem.F.type_list_append mt_append (pv 8) (pa_cons (pe_told (X := (cxOf CX0 P w K mg base n_law_right "_law_right" (defScope sRight) f (.ref c) A outer s H E).nox) (k := 5) Z hg (by rfl) rfl hr (lamS_by (sc := defScope sRight) (by decide +kernel)) rfl (fun _ _ _ _ _ => rfl) (fun A outer s H E f c' hr' => pe_hasX (E := E) HX_minus hr' (takes_of rfl rfl rfl rfl) (fun _ _ _ _ z => z) (by rfl) (pa_cons (pv 3) (pa_cons (pv 4) pa_nil)))) pa_nil)))
      (pss_cons (ps_expr (pe_bm PySem.F.plainAttrs_list PySem.F.slot_list_append PySem.F.type_list_append mt_append (pv 8) (pa_cons (pe_told (X := (cxOf CX0 P w K mg base n_law_right "_law_right" (defScope sRight) f (.ref c) A outer s H E).nox) (k := 5) Z hg (by rfl) rfl hr (lamS_by (sc := defScope sRight) (by decide +kernel)) rfl (fun _ _ _ _ _ => rfl) (fun A outer s H E f c' hr' => pe_hasX (E := E) HX_inner hr' (takes_of rfl rfl rfl rfl) (fun _ _ _ _ z => z) (by rfl) (pa_cons (pv 3) (pa_cons (pv 4) pa_nil)))) pa_nil)))
      (pss_cons (ps_expr (pe_bm PySem.F.plainAttrs_list PySem.F.slot_list_append PySem.F.type_list_append mt_append (pv 8) (pa_cons (pe_told (X := (cxOf CX0 P w K mg base n_law_right "_law_right" (defScope sRight) f (.ref c) A outer s H E).nox) (k := 5) Z hg (by rfl) rfl hr (lamS_by (sc := defScope sRight) (by decide +kernel)) rfl (fun _ _ _ _ _ => rfl) (fun A outer s H E f c' hr' => pe_hasX (E := E) HX_cross hr' (takes_of rfl rfl rfl rfl) (fun _ _ _ _ z => z) (by rfl) (pa_cons (pv 3) (pa_cons (pv 4) pa_nil)))) pa_nil)))
      (pss_cons (ps_if ((pw_or (pt_cmpR (op_neD hu) (pv 8) (pe_op op_rep (pe_lst (pa_cons (pv 7) pa_nil)) pe_int) (nomark _)) (pw_or1 (pt_cmpR (op_neD hu) (pe_told (X := (cxOf CX0 P w K mg base n_law_right "_law_right" (defScope sRight) f (.ref c) A outer s H E).nox) (k := 5) Z hg (by rfl) rfl hr (lamS_by (sc := defScope sRight) (by decide +kernel)) rfl (fun _ _ _ _ _ => rfl) (fun A outer s H E f c' hr' => pe_hasX (E := E) HX_quarter hr' (takes_of rfl rfl rfl rfl) (fun _ _ _ _ z => z) (by rfl) (pa_cons (pv 3) pa_nil))) (pe_hasG HG_law_due hg (hr.mono (by decide)) (by rfl) (pa_cons (pe_lst (pa_cons (pe_tup (pa_cons pe_str (pa_cons (pv 3) pa_nil))) pa_nil)) pa_nil)) (nomark _)))).pt) (pss_one (ps_ret pe_bl)) pss_nil)
      (pss_cons (ps_if (pt_cmpR (op_neD hu) (pe_told (X := (cxOf CX0 P w K mg base n_law_right "_law_right" (defScope sRight) f (.ref c) A outer s H E).nox) (k := 5) Z hg (by rfl) rfl hr (lamS_by (sc := defScope sRight) (by decide +kernel)) rfl (fun _ _ _ _ _ => rfl) (fun A outer s H E f c' hr' => pe_hasX (E := E) HX_times hr' (takes_of rfl rfl rfl rfl) (fun _ _ _ _ z => z) (by rfl) (pa_cons (pv 3) (pa_cons (pv 6) pa_nil)))) (pe_hasG HG_law_due hg (hr.mono (by decide)) (by rfl) (pa_cons (pe_lst (pa_cons (pe_tup (pa_cons pe_str (pa_cons (pv 3) pa_nil))) (pa_cons (pe_tup (pa_cons pe_str (pa_cons (pv 6) pa_nil))) pa_nil))) pa_nil)) (nomark _)) (pss_one (ps_ret pe_bl)) pss_nil)
      (pss_cons (ps_if (pt_cmpR (op_neD hu) (pe_told (X := (cxOf CX0 P w K mg base n_law_right "_law_right" (defScope sRight) f (.ref c) A outer s H E).nox) (k := 5) Z hg (by rfl) rfl hr (lamS_by (sc := defScope sRight) (by decide +kernel)) rfl (fun _ _ _ _ _ => rfl) (fun A outer s H E f c' hr' => pe_hasX (E := E) HX_between hr' (takes_of rfl rfl rfl rfl) (fun _ _ _ _ z => z) (by rfl) (pa_cons (pv 3) (pa_cons (pv 4) (pa_cons (pv 6) pa_nil))))) (pe_hasG HG_law_due hg (hr.mono (by decide)) (by rfl) (pa_cons (pe_lst (pa_cons (pe_tup (pa_cons pe_str (pa_cons (pv 3) pa_nil))) (pa_cons (pe_tup (pa_cons pe_str (pa_cons (pv 4) pa_nil))) (pa_cons (pe_tup (pa_cons pe_str (pa_cons (pv 6) pa_nil))) pa_nil)))) pa_nil)) (nomark _)) (pss_one (ps_ret pe_bl)) pss_nil)
      (pss_one (ps_if (pt_cmpR (op_neD hu) (pe_told (X := (cxOf CX0 P w K mg base n_law_right "_law_right" (defScope sRight) f (.ref c) A outer s H E).nox) (k := 5) Z hg (by rfl) rfl hr (lamS_by (sc := defScope sRight) (by decide +kernel)) rfl (fun _ _ _ _ _ => rfl) (fun A outer s H E f c' hr' => pe_hasX (E := E) HX_sense hr' (takes_of rfl rfl rfl rfl) (fun _ _ _ _ z => z) (by rfl) (pa_cons (pv 3) (pa_cons (pv 4) (pa_cons (pv 5) pa_nil))))) (pe_hasG HG_law_due hg (hr.mono (by decide)) (by rfl) (pa_cons (pe_lst (pa_cons (pe_tup (pa_cons pe_str (pa_cons (pv 3) pa_nil))) (pa_cons (pe_tup (pa_cons pe_str (pa_cons (pv 4) pa_nil))) (pa_cons (pe_tup (pa_cons pe_str (pa_cons (pv 5) pa_nil))) pa_nil)))) pa_nil)) (nomark _)) (pss_one (ps_ret pe_bl)) pss_nil))))))))))))))
      (pss_one (ps_ret
            pe_bl))), ?_⟩
    have G3 : OddA K _ 3 := (oaC (oddT (cC (cI (v := .int 1)) (cC (cI (v := .int 2)) (cC (cI (v := .int 3)) cZ))) (by decide +kernel)) (oaC (oddT (cC (cI (v := .int 0)) (cC (cI (v := .int 0)) (cC (cI (v := .int 1)) cZ))) (by decide +kernel)) (oaC (oddT (cC (cN (i := 5)) (cC (cI (v := .int 7)) (cC (cI (v := .int 2)) cZ))) (by decide +kernel)) oaZ)))
    have GP : OddE K _ := oddT (cC (cN (i := 2)) (cC (cI (v := .int 3)) cZ)) (by decide +kernel)
    refine ⟨6, rfl, by decide, by decide, for_range (lo := 0) (n := 6) (fun i σ H' => (∃ v1 v2 v3 v4 v5 v6 v7 v8 v9 : Option V, σ = [some (.ref u), v1, v2, v3, v4, v5, v6, v7, v8, v9]) ∧ ExtN H H' ∧ Tabs [(TB, qLam)] H') ⟨⟨none, none, none, none, none, none, none, none, none, rfl⟩, ExtN.refl H, hT⟩ ?_ ?_⟩
    · rintro i σ H0 hi ⟨⟨v1, v2, v3, v4, v5, v6, v7, v8, v9, rfl⟩, e0, T0⟩
      have hu1 : H0 u = some (UrnO u) := xto e0 hu0 (fun _ z => by unfold UrnO at z; cases z)
      refine w_nm ?_
      refine w_seq (oddLst G3 (by decide) _ _ _ fun lg xs H1 s1 hlg l1 o1 => w_nm ?_)
      refine w_seq (lcOdd (a := lg) (xs := xs) (fun R h => ⟨_, rfl, h⟩) hlg (by rw [l1]; decide) (fun x hx => (o1 x hx).odd) (fun _ => rfl) (fun x H3 s3 Q' hq => odd_or (u := u) ((s1.trans s3) _ _ hu1) rfl (fun H4 s4 => ⟨x, rfl, hq x H4 s4 (Or.inr rfl)⟩) (fun y H4 s4 n => hq y H4 s4 (Or.inl n))) fun D0 ys H2 s2 hD lD oD => ?_)
      obtain ⟨x0, x1, x2, rfl⟩ : ∃ a b c, ys = [a, b, c] := by
        match ys, (lD.trans l1) with
        | [a, b, c], _ => exact ⟨a, b, c, rfl⟩
      refine ⟨D0, _, rfl, SqL.of hD, rfl, x0, _, rfl, x1, _, rfl, x2, [], rfl, rfl, ?_⟩
      refine w_seq (odd_or2 (u := u) ((s1.trans s2) _ _ hu1) rfl GP fun y H3 s3 oy => w_nm ?_)
      obtain ⟨k0, xs0, t0, O0⟩ := (oD x0 (by simp)).ext (ext_same s3)
      obtain ⟨k1, xs1, t1, O1⟩ := (oD x1 (by simp)).ext (ext_same s3)
      obtain ⟨k2, xs2, t2, O2⟩ := (oD x2 (by simp)).ext (ext_same s3)
      obtain ⟨k3, xs3, t3, O3⟩ := oy
      have R0 : Rd4 K H3 ("point", x0, k0 == .tup && isPt xs0, t0) := ⟨⟨k0, xs0, O0, Or.inl ⟨rfl, rfl⟩⟩⟩
      have R1 : Rd4 K H3 ("point", x1, k1 == .tup && isPt xs1, t1) := ⟨⟨k1, xs1, O1, Or.inl ⟨rfl, rfl⟩⟩⟩
      have R2 : Rd4 K H3 ("point", x2, k2 == .tup && isPt xs2, t2) := ⟨⟨k2, xs2, O2, Or.inl ⟨rfl, rfl⟩⟩⟩
      have R3 : Rd4 K H3 ("fraction", y, k3 == .tup && isFr xs3, t3) := ⟨⟨k3, xs3, O3, Or.inr ⟨rfl, rfl⟩⟩⟩
      have T3 : Tabs [(TB, qLam)] H3 := T0.ext (s1.trans (s2.trans s3))
      have e3 : ExtN H H3 := e0.trans (ext_same (s1.trans (s2.trans s3)))
      have E01 : EsOk K CP CF H3 [(CP, ("point", x0, k0 == .tup && isPt xs0, t0)), (CP, ("point", x1, k1 == .tup && isPt xs1, t1))] := (es_p R0 (es_p R1 es_nil))
      have E0 : EsOk K CP CF H3 [(CP, ("point", x0, k0 == .tup && isPt xs0, t0))] := (es_p R0 es_nil)
      have E03 : EsOk K CP CF H3 [(CP, ("point", x0, k0 == .tup && isPt xs0, t0)), (CF, ("fraction", y, k3 == .tup && isFr xs3, t3))] := (es_p R0 (es_f R3 es_nil))
      have E013 : EsOk K CP CF H3 [(CP, ("point", x0, k0 == .tup && isPt xs0, t0)), (CP, ("point", x1, k1 == .tup && isPt xs1, t1)), (CF, ("fraction", y, k3 == .tup && isFr xs3, t3))] := (es_p R0 (es_p R1 (es_f R3 es_nil)))
      have E012 : EsOk K CP CF H3 [(CP, ("point", x0, k0 == .tup && isPt xs0, t0)), (CP, ("point", x1, k1 == .tup && isPt xs1, t1)), (CP, ("point", x2, k2 == .tup && isPt xs2, t2))] := (es_p R0 (es_p R1 (es_p R2 es_nil)))
      refine w_seq (due_call (rwC rfl (rwC rfl rwZ)) (by show 2 ≤ 10; decide) E01.is fun p7 H4 s4 h7 => w_nm ?_)
      have T4 := T3.ext s4
      have e34 := ext_same s4
      refine w_told1 (K := K) (CP := CP) (CF := CF) [(CP, ("point", x0, k0 == .tup && isPt xs0, t0)), (CP, ("point", x1, k1 == .tup && isPt xs1, t1))] E01.cl T4 (E01.ext e34).rd (fun E H9 Q' e f => ⟨x0, rfl, x1, rfl, x0, k0, xs0, x1, k1, xs1, rfl, O0.vo.ext (e34.trans e), O1.vo.ext (e34.trans e), f⟩) fun G5 l p1 L5 => ?_
      have e4 := fun {G9 H9} (L : ExtN H4 G9) (e : ExtN G9 H9) => (e34.trans L).trans e
      refine w_app (K := K) (CP := CP) (CF := CF) [(CP, ("point", x0, k0 == .tup && isPt xs0, t0)), (CP, ("point", x1, k1 == .tup && isPt xs1, t1))] L5 (by show 1 ≤ 100; decide) rfl E01.cl (E01.ext e34).rd (fun E H9 Q' e f => ⟨x0, rfl, x1, rfl, x0, k0, xs0, x1, k1, xs1, rfl, O0.vo.ext (e34.trans e), O1.vo.ext (e34.trans e), f⟩) fun G6 p2 L6 => ?_
      refine w_app (K := K) (CP := CP) (CF := CF) [(CP, ("point", x0, k0 == .tup && isPt xs0, t0)), (CP, ("point", x1, k1 == .tup && isPt xs1, t1))] L6 (by show 2 ≤ 100; decide) rfl E01.cl (E01.ext e34).rd (fun E H9 Q' e f => ⟨x0, rfl, x1, rfl, x0, k0, xs0, x1, k1, xs1, rfl, O0.vo.ext (e34.trans e), O1.vo.ext (e34.trans e), f⟩) fun G7 p3 L7 => ?_
      refine w_app (K := K) (CP := CP) (CF := CF) [(CP, ("point", x0, k0 == .tup && isPt xs0, t0)), (CP, ("point", x1, k1 == .tup && isPt xs1, t1))] L7 (by show 3 ≤ 100; decide) rfl E01.cl (E01.ext e34).rd (fun E H9 Q' e f => ⟨x0, rfl, x1, rfl, x0, k0, xs0, x1, k1, xs1, rfl, O0.vo.ext (e34.trans e), O1.vo.ext (e34.trans e), f⟩) fun G8 p4 L8 => ?_
      refine w_if (w_or (w_four L8 rfl rfl h7 (E01.ext e34).is fun G9 s9 => iteF rfl ?_))
      have e9 : ExtN H3 G9 := (e34.trans L8.ext).trans (ext_same s9)
      have T9 := L8.tabs.ext s9
      refine w_ne (K := K) (CP := CP) (CF := CF) [(CP, ("point", x0, k0 == .tup && isPt xs0, t0))] E0.cl T9 (E0.ext e9).rd (by show 1 ≤ 10; decide) (fun E H9 Q' e f => ⟨x0, rfl, x0, k0, xs0, rfl, O0.vo.ext (e9.trans e), f⟩) (rwC rfl rwZ) fun Ga ea Ta => iteF rfl (w_next ?_)
      have ea' := e9.trans ea
      refine w_if (w_ne (K := K) (CP := CP) (CF := CF) [(CP, ("point", x0, k0 == .tup && isPt xs0, t0)), (CF, ("fraction", y, k3 == .tup && isFr xs3, t3))] E03.cl Ta (E03.ext ea').rd (by show 2 ≤ 10; decide) (fun E H9 Q' e f => ⟨x0, rfl, y, rfl, x0, k0, xs0, y, k3, xs3, rfl, O0.vo.ext (ea'.trans e), O3.vo.ext (ea'.trans e), f⟩) (rwC rfl (rwC rfl rwZ)) fun Gb eb Tb => iteF rfl (w_next ?_))
      have eb' := ea'.trans eb
      refine w_if (w_ne (K := K) (CP := CP) (CF := CF) [(CP, ("point", x0, k0 == .tup && isPt xs0, t0)), (CP, ("point", x1, k1 == .tup && isPt xs1, t1)), (CF, ("fraction", y, k3 == .tup && isFr xs3, t3))] E013.cl Tb (E013.ext eb').rd (by show 3 ≤ 10; decide) (fun E H9 Q' e f => ⟨x0, rfl, x1, rfl, y, rfl, x0, k0, xs0, x1, k1, xs1, y, k3, xs3, rfl, O0.vo.ext (eb'.trans e), O1.vo.ext (eb'.trans e), O3.vo.ext (eb'.trans e), f⟩) (rwC rfl (rwC rfl (rwC rfl rwZ))) fun Gc ec Tc => iteF rfl (w_next ?_))
      have ec' := eb'.trans ec
      refine w_ifL (w_ne (K := K) (CP := CP) (CF := CF) [(CP, ("point", x0, k0 == .tup && isPt xs0, t0)), (CP, ("point", x1, k1 == .tup && isPt xs1, t1)), (CP, ("point", x2, k2 == .tup && isPt xs2, t2))] E012.cl Tc (E012.ext ec').rd (by show 3 ≤ 10; decide) (fun E H9 Q' e f => ⟨x0, rfl, x1, rfl, x2, rfl, x0, k0, xs0, x1, k1, xs1, x2, k2, xs2, rfl, O0.vo.ext (ec'.trans e), O1.vo.ext (ec'.trans e), O2.vo.ext (ec'.trans e), f⟩) (rwC rfl (rwC rfl (rwC rfl rwZ))) fun Gd ed Td => iteF rfl ?_)
      exact ⟨⟨_, _, _, _, _, _, _, _, _, rfl⟩, e3.trans (ec'.trans ed), Td⟩
    · rintro σ H' ⟨⟨v1, v2, v3, v4, v5, v6, v7, v8, v9, rfl⟩, e, T'⟩
      exact q H' e T'
end
end K7

set_option
      maxHeartbeats 2000000
namespace K7
open PySem L2 Ur LamX PyProof.Rows
section
variable {P : Program} {w : World} {K :
      PySem.W.Frag} {mg : Str → Option Value} {base : Heap}
abbrev sLaw : Stmt := top 52
abbrev n_law : List Str := ["_law_script", "_law_lap"]
abbrev p_law : List Str := ["_law_script"]
theorem sc_law : FnScope n_law p_law (defScope sLaw) := ⟨rfl, rfl, rfl, by decide +kernel, rfl, by decide +kernel, by decide +kernel⟩
def spLaw (TB : Addr) (K : PySem.W.Frag) : Sp := fun vs H Q _ => ∃ (a : Addr) (ns : List Int), vs = [.ref a] ∧ SqL K H a (ns.map V.int) ∧ H TB = some (.tbl #[]) ∧ ∀ H' : Hp, Q (.bl true) H'
theorem ok_law {f TB : Addr} {fd : FuncData} (F : Fun K "law" "law" sLaw f fd) (T : Bl mg) (H_law_laps : Has P w K mg base "_law_laps" p_law_laps 1 (spLaps K)) (H_law_urn : Has P w K mg base "_law_urn" p_law_urn 1 (spUrn K))
    (HG_law_right : HasG P w K mg base "_law_right" p_law_right 8 (spRight TB)) : FnG P w K mg base CX0 9 f fd p_law (spLaw TB K) := by
  refine okG F sc_law (fun vs H Q E h => ?_) (fun cdv A outer s H vs Q E hg hr h => ?_)
  · obtain ⟨a, ns, rfl, _⟩ := h
    rfl
  · obtain ⟨a, ns, rfl, hS, hT, q⟩ := h
    refine ⟨_, (pss_cons (ps_for PassesOwn.never rfl (pi_range1 (by rfl) T.range (pa_cons (pe_has H_law_laps (hr.mono (by decide)) (by rfl) (pa_cons (pv 0) pa_nil)) pa_nil)) (pg_name (i := 1) sc_law.nd rfl (Or.inl rfl)) (pss_one (ps_if (pt_not (pt_val (pe_hasG HG_law_right hg (hr.mono (by decide)) (by rfl) (pa_cons (pe_shut (pe_has H_law_urn (hr.mono (by decide)) (by rfl) (pa_cons (pv 0) (pa_cons (pv 1) pa_nil)))) pa_nil)))) (pss_one (ps_ret pe_bl)) pss_nil)))
      (pss_one (ps_ret
            pe_bl))), ?_⟩
    refine ⟨_, rfl, a, _, rfl, hS, fun n n0 n1 => ⟨n, rfl, by omega, by omega, for_range (lo := 0) (n := n.toNat) (fun i σ H' => ∃ v : Option V, σ = [some (.ref a), v] ∧ ExtN H H' ∧ Tabs [(TB, qLam)] H') ⟨none, rfl, ExtN.refl _, fun p hp => ?_⟩ ?_ ?_⟩⟩
    · obtain rfl := List.mem_singleton.mp hp
      exact TabS.nil hT
    · rintro i σ H0 hi ⟨v, rfl, s0, T0⟩
      refine ⟨_, rfl, _, rfl, a, ns, _, rfl, ext_sqL s0 hS, by omega, by omega, fun p x y z H2 hp s2 B hy => ⟨p, rfl, x, y, z, B, hy, p, rfl, upd_same, T0.ext (same_own s2 hp), fun H3 e3 T3 => ⟨true, rfl, ?_⟩⟩⟩
      exact ⟨_, rfl, s0.trans ((ext_same (same_own s2 hp)).trans e3), T3⟩
    · rintro σ H' ⟨v, rfl, s0, _⟩
      exact q H'
end
end K7

set_option
      maxHeartbeats 2000000
namespace K7
open PySem L2 Ur LamX
def FndC (K : PySem.W.Frag) (mg : Str → Option Value) (x : Str) (st : Stmt) (ps : List Str) (c : Addr) : Prop :=
  ∃ f fd, Fun K x x st f fd ∧ fd.code = .ref c ∧ mg x = some (.ref f) ∧ Binds K fd ps []
section
variable {P : Program} {w : World} {K : PySem.W.Frag} {mg : Str → Option Value} {base : Heap} {x : Str} {st : Stmt} {ps : List Str} {k : Nat} {sp : Sp} {c : Addr}
theorem hasX_of (D : Ur.Fnd K mg x st ps) (h : ∀ {f fd}, Fun K x x st f fd → FnOk P w K mg base (L2.CX P w) k f fd ps sp) : HasX P w K mg base x ps k sp := by
  obtain ⟨f, fd, F, m, b⟩ := D
  exact ⟨f, fd, h F, m, F.kp, b⟩
theorem hasC_of (D : FndC K mg x st ps c) (h : ∀ {f fd}, Fun K x x st f fd → fd.code = .ref c → FnG P w K mg base CX0 k f fd ps sp) : HasG P w K mg base x ps k sp := by
  obtain ⟨f, fd, F, e, m, b⟩ := D
  exact ⟨f, fd, h F e, m, F.kp, b⟩
end
section
variable {K : PySem.W.Frag} {h : Heap} {mg : Str → Option Value} {x : Str} {st : Stmt} {ps : List Str} {f c : Addr} {oc kV dc pm cd ct : Value} {od an : Option Addr} {sl : Array (Option Value)}
theorem fndC_mk (X : K.In h) (G : h.Ns mainGlobals mg) (a : PySem.W.nsIn K mainGlobals x = some (some (.ref f))) (l : K.lookup f = some ⟨oc, od, .func (PySem.W.fnOf x x (defArgs st) (defBody st) (defScope st) .none kV dc pm an (.ref c) ct), sl⟩)
    (cc : PySem.W.codeIn K (.ref c) x = true) (k : PySem.W.keepIn K (.ref f) = true)
    (hb : ∀ (kV doc pm : Value) (an : Option Addr) (ct : Value) (us : List Value), us.length = ps.length → bindArgs (PySem.W.fnOf x x (defArgs st) (defBody st) (defScope st) .none kV doc pm an (.ref c) ct) ⟨us, []⟩ = pure (ps.zip us)) : FndC K mg x st ps c := by
  have F := fun_mk l cc k
  exact ⟨f, _, F, rfl, PySem.W.mg_of X G a, fun s us _ hl => .of_eq (by simpa using hb _ _ _ _ _ us (by simpa using hl))⟩
theorem exm_of {a b : Addr} {r : Bool} (h1 : PySem.W.subIn K (.ref b) (.type "BaseException") = some true) (h2 : PySem.W.isClsIn K b = true) (h3 : PySem.W.typeIn K (.ref b) = some (.type "type")) (h4 : PySem.W.subIn K (.ref a) (.ref b) = some r) : PySem.W.exmOne K (.ref a) (.ref b) = some r := by
  have h2' : (PySem.W.clsIn K b).isSome = true := h2
  have e1 : (PySem.W.subIn K (.ref b) (.type "BaseException") == some true) = true := by
    rw [h1]
    rfl
  have e2 : ((PySem.W.clsIn K b).isSome && PySem.W.typeIn K (.ref b) == some (.type "type")) = true := by
    rw [h2', h3]
    rfl
  unfold PySem.W.exmOne
  rw [if_pos e1]
  unfold PySem.W.kitCls
  dsimp only
  rw [if_pos e2]
  exact h4
theorem err_mk {qual : Str} {C fI : Addr} {nm q : Str} {N : Addr} {bs bm : List Value} {sn : List Str} {sub : List Value} {ab : Bool} {col : Option Bool} {dd : Option Addr} {m0 m1 m2 m3 m5 : Option Value}
    (X : K.In h) (G : h.Ns mainGlobals mg) (a : PySem.W.nsIn K mainGlobals x = some (some (.ref C)))
    (xL : K.lookup C = some (excClassObj nm q C N bs bm true sn sub ab col dd m0 m1 m2 m3 m5 "ValueError.__new__")) (xr : PySem.HandSPX.refsVE bm = true)
    (sa : PySem.W.findIn K (.ref C) "__setattr__" = some (some (.builtin "object.__setattr__"))) (ga : PySem.W.findIn K (.ref C) "__getattribute__" = some (some (.builtin "BaseException.__getattribute__"))) (gg : PySem.W.findIn K (.ref C) "__getattr__" = some none)
    (nG : PySem.W.findIn K (.ref C) "given" = some none) (iC : PySem.W.findIn K (.ref C) "__init__" = some (some (.ref fI))) (tI : PySem.W.typeIn K (.ref fI) = some (.type "function"))
    (l : K.lookup fI = some ⟨oc, od, .func (PySem.W.fnOf "__init__" qual (defArgs st) (defBody st) (defScope st) .none kV dc pm an cd ct), sl⟩) (cc : PySem.W.codeIn K cd qual = true) (k : PySem.W.keepIn K (.ref fI) = true)
    (kC : PySem.W.keepIn K (.ref C) = true) (eC : PySem.W.subIn K (.ref C) (.type "BaseException") = some true) (tC : PySem.W.typeIn K (.ref C) = some (.type "type")) (hC : PySem.W.hasDictIn K C = true)
    (hb : ∀ (kV doc pm : Value) (an : Option Addr) (cdv ct : Value) (us : List Value), us.length = n_init.length → bindArgs (PySem.W.fnOf "__init__" qual (defArgs st) (defBody st) (defScope st) .none kV doc pm an cdv ct) ⟨us, []⟩ = pure (n_init.zip us)) :
    ∃ fd, Err K mg x qual st C fI fd := by
  have F := fun_mk l cc k
  exact ⟨_, ⟨⟨⟨nm, q, N, bs, bm, sn, sub, ab, col, dd, m0, m1, m2, m3, m5, xL, xr⟩, sa, eC, tC, kC⟩, iC, tI, F, PySem.W.mg_of X G a, ⟨ga, gg, eC, hC⟩, nG, F.binds hb⟩⟩
end
section
variable {P : Program} {w : World} {K :
      PySem.W.Frag} {mg : Str → Option Value} {base : Heap}
theorem all_ok {f c TB CP CF fP fF : Addr} {qP qF : Str} {fd fdP fdF : FuncData} (F : Fun K "law" "law" sLaw f fd) (T : Bl mg) (mG : mg "gcd" = some (.builtin "math.gcd"))
    (EP : Err K mg "InvalidPoint" qP sErrP CP fP fdP) (EF : Err K mg "InvalidFraction" qF sErrF CF fF fdF) (EX : ErrX K CP CF) (TBB : TabB base mg c TB)
    (D0 : Ur.Fnd K mg "common_divisor" sCom K7.p_common_divisor) (D1 : Ur.Fnd K mg "is_whole" sWhole K7.n_is_whole) (D2 : Ur.Fnd K mg "wholes_fit" sWholes K7.p_wholes_fit) (D3 : Ur.Fnd K mg "fraction_fits" sFracF K7.n_value) (D4 : Ur.Fnd K mg "point_fits" sPointF K7.n_value) (D5 : Ur.Fnd K mg "sign_of" sSign K7.p_n) (D6 : Ur.Fnd K mg "ratio" sRatio K7.p_ratio) (D7 : Ur.Fnd K mg "place" sPlace K7.p_place) (D8 : Ur.Fnd K mg "place_sum" sPSum K7.p_po) (D9 : Ur.Fnd K mg "way_to" sWayTo K7.p_po) (D10 : Ur.Fnd K mg "place_times" sPTimes K7.p_pf) (D11 : Ur.Fnd K mg "place_between" sPBetw K7.p_pof) (D12 : Ur.Fnd K mg "inner_of" sInnerOf K7.p_po) (D13 : Ur.Fnd K mg "cross_of" sCrossOf K7.p_po) (D14 : Ur.Fnd K mg "quarter_of" sQuarterOf K7.p_p) (D15 : Ur.Fnd K mg "line_through_both" sLine K7.p_po) (D16 : Ur.Fnd K mg "side_of" sSideOf K7.p_pot) (D17 : Ur.Fnd K mg "check_point" sChkP K7.n_value) (D18 : Ur.Fnd K mg "check_fraction" sChkF K7.n_value) (D19 : Ur.Fnd K mg "plus" sPlus K7.p_po) (D20 : Ur.Fnd K mg "minus" sMinus K7.p_po) (D21 : Ur.Fnd K mg "times" sTimes K7.p_pf) (D22 : Ur.Fnd K mg "between" sBetween K7.p_pof) (D23 : Ur.Fnd K mg "inner" sInner K7.p_po) (D24 : Ur.Fnd K mg "cross" sCross K7.p_po) (D25 : Ur.Fnd K mg "quarter" sQuarter K7.p_p) (D26 : Ur.Fnd K mg "sense" sSense K7.p_pot) (D27 : Ur.Fnd K mg "_law_urn" sUrn K7.p_law_urn) (D28 : Ur.Fnd K mg "_law_pull" sPull ["_law_urn_here", "_law_many"]) (D29 : Ur.Fnd K mg "_law_any" sAny K7.p_law_any) (D30 : Ur.Fnd K mg "_law_laps" sLaps K7.p_law_laps) (D31 : Ur.Fnd K mg "_law_gcd" sGcd K7.p_law_gcd) (D32 : Ur.Fnd K mg "_law_thin" sThin K7.p_law_thin) (D33 : Ur.Fnd K mg "_law_is_whole" sLWhole K7.n_law_is_whole) (D34 : Ur.Fnd K mg "_law_are_whole" sAre K7.p_law_are_whole) (D35 : Ur.Fnd K mg "_law_is_frac" sLFrac K7.n_lthing) (D36 : Ur.Fnd K mg "_law_is_spot" sLSpot K7.n_lthing) (D37 : Ur.Fnd K mg "_law_odd" sOdd K7.p_law_odd) (D38 : Ur.Fnd K mg "_law_told" sTold K7.p_law_told) (D39 : Ur.Fnd K mg "_law_due" sDue K7.p_law_due) (D40 : FndC K mg "_law_right" sRight K7.p_law_right c) :
    FnG P w K mg base CX0 9 f fd p_law (spLaw TB K) := by
  have h_common_divisor : Has P w K mg base "common_divisor" K7.p_common_divisor 1 (spCom K) := D0.has fun F => ok_com F mG
  have h_is_whole : Has P w K mg base "is_whole" K7.n_is_whole 1 (spWhole K) := D1.has fun F => ok_whole F T
  have h_wholes_fit : Has P w K mg base "wholes_fit" K7.p_wholes_fit 2 (spTold K fun xs => xs.all wh) := D2.has fun F => ok_wholes F T h_is_whole
  have h_fraction_fits : Has P w K mg base "fraction_fits" K7.n_value 3 (spTold K isFr) := D3.has fun F => ok_fracF F T mG h_wholes_fit
  have h_point_fits : Has P w K mg base "point_fits" K7.n_value 3 (spTold K isPt) := D4.has fun F => ok_pointF F T h_common_divisor h_wholes_fit
  have h_sign_of : Has P w K mg base "sign_of" K7.p_n 1 spSgn := D5.has fun F => ok_sign F 
  have h_ratio : Has P w K mg base "ratio" K7.p_ratio 1 (spN2 K) := D6.has fun F => ok_ratio F mG
  have h_place : Has P w K mg base "place" K7.p_place 1 (spN3 K) := D7.has fun F => ok_place F mG
  have h_place_sum : Has P w K mg base "place_sum" K7.p_po 2 (spP2 K sumL) := D8.has fun F => ok_psum F h_place
  have h_way_to : Has P w K mg base "way_to" K7.p_po 2 (spP2 K wayL) := D9.has fun F => ok_wayto F h_place
  have h_place_times : Has P w K mg base "place_times" K7.p_pf 2 (spPF K byL) := D10.has fun F => ok_ptimes F h_place
  have h_place_between : Has P w K mg base "place_between" K7.p_pof 3 (spPPF K) := D11.has fun F => ok_pbetw F h_place_sum h_way_to h_place_times
  have h_inner_of : Has P w K mg base "inner_of" K7.p_po 2 (spP2 K innL) := D12.has fun F => ok_innerof F h_ratio
  have h_cross_of : Has P w K mg base "cross_of" K7.p_po 2 (spP2 K crsL) := D13.has fun F => ok_crossof F h_ratio
  have h_quarter_of : Has P w K mg base "quarter_of" K7.p_p 1 (spP1 K qtrL) := D14.has fun F => ok_quarterof F 
  have h_line_through_both : Has P w K mg base "line_through_both" K7.p_po 1 (spLine K) := D15.has fun F => ok_line F 
  have h_side_of : Has P w K mg base "side_of" K7.p_pot 2 (spSide K) := D16.has fun F => ok_sideof F h_line_through_both h_sign_of
  have h_check_point : HasX P w K mg base "check_point" K7.n_value 4 (spChkE K CP isPt) := hasX_of D17 fun F => ok_chkP F EP h_point_fits
  have h_check_fraction : HasX P w K mg base "check_fraction" K7.n_value 4 (spChkE K CF isFr) := hasX_of D18 fun F => ok_chkF F EF h_fraction_fits
  have h_plus : HasX P w K mg base "plus" K7.p_po 5 (spEPP K CP CF) := hasX_of D19 fun F => ok_m_plus F h_check_point h_place_sum
  have h_minus : HasX P w K mg base "minus" K7.p_po 5 (spEPP K CP CF) := hasX_of D20 fun F => ok_m_minus F h_check_point h_way_to
  have h_times : HasX P w K mg base "times" K7.p_pf 5 (spEPF K CP CF) := hasX_of D21 fun F => ok_m_times F h_check_point h_check_fraction h_place_times
  have h_between : HasX P w K mg base "between" K7.p_pof 5 (spEPPF K CP CF) := hasX_of D22 fun F => ok_m_between F h_check_point h_check_fraction h_place_between
  have h_inner : HasX P w K mg base "inner" K7.p_po 5 (spEPP K CP CF) := hasX_of D23 fun F => ok_m_inner F h_check_point h_inner_of
  have h_cross : HasX P w K mg base "cross" K7.p_po 5 (spEPP K CP CF) := hasX_of D24 fun F => ok_m_cross F h_check_point h_cross_of
  have h_quarter : HasX P w K mg base "quarter" K7.p_p 5 (spEP K CP CF) := hasX_of D25 fun F => ok_m_quarter F h_check_point h_quarter_of
  have h_sense : HasX P w K mg base "sense" K7.p_pot 5 (spEPPP K CP CF) := hasX_of D26 fun F => ok_m_sense F h_check_point h_side_of
  have h__law_urn : Has P w K mg base "_law_urn" K7.p_law_urn 1 (spUrn K) := D27.has fun F => ok_urn F T
  have h__law_pull : Has P w K mg base "_law_pull" ["_law_urn_here", "_law_many"] 1 spPull := D28.has fun F => ok_pull F T
  have h__law_any : Has P w K mg base "_law_any" K7.p_law_any 2 spAny := D29.has fun F => ok_any F T h__law_pull
  have h__law_laps : Has P w K mg base "_law_laps" K7.p_law_laps 1 (spLaps K) := D30.has fun F => ok_laps F T
  have h__law_gcd : Has P w K mg base "_law_gcd" K7.p_law_gcd 1 spGcd := D31.has fun F => ok_gcd F T
  have h__law_thin : Has P w K mg base "_law_thin" K7.p_law_thin 2 (spThin K) := D32.has fun F => ok_thin F T h__law_gcd
  have h__law_is_whole : Has P w K mg base "_law_is_whole" K7.n_law_is_whole 1 (spWhole K) := D33.has fun F => ok_lwhole F T
  have h__law_are_whole : Has P w K mg base "_law_are_whole" K7.p_law_are_whole 2 (spAre K) := D34.has fun F => ok_are F T h__law_is_whole
  have h__law_is_frac : Has P w K mg base "_law_is_frac" K7.n_lthing 3 (spTold K isFr) := D35.has fun F => ok_lfrac F T h__law_are_whole h__law_gcd
  have h__law_is_spot : Has P w K mg base "_law_is_spot" K7.n_lthing 3 (spTold K isPt) := D36.has fun F => ok_lspot F T h__law_are_whole h__law_thin
  have h__law_odd : Has P w K mg base "_law_odd" K7.p_law_odd 3 (spOdd K) := D37.has fun F => ok_odd F h__law_any
  have Z : ToldIn K mg base c TB CP CF := by
    obtain ⟨f, fd, F, m, bd⟩ := D38
    exact ⟨⟨f, fd, F, m, F.kp, bd⟩, EX, EP.gm, EF.gm, T.repr, TBB⟩
  have h__law_due : HasG P w K mg base "_law_due" K7.p_law_due 4 (spDue K) := D39.hasG fun F => ok_due F T.repr h__law_is_spot h__law_is_frac
  have h__law_right : HasG P w K mg base "_law_right" K7.p_law_right 8 (spRight TB) := hasC_of D40 fun F hc => ok_right F hc T Z h__law_pull h__law_odd h__law_due h_plus h_minus h_inner h_cross h_quarter h_times h_between h_sense
  exact ok_law F T h__law_laps h__law_urn h__law_right
end
theorem walk7 {l : PySem.W.OpenLaw} {c TB : Addr} {q : Program} {loose : List Str} {XP : (Str → Option Value) → Heap → Prop} {YP : World → Heap → Prop} {d : DefRec} {K : Params → PySem.W.Frag} (hn : l.most = some 63) (hdf : d.params.defaults = [])
    (hY : ∀ (w : World) (h : Heap), YP w h → (K w.params).In h ∧ h.get? TB = some { cls := .none, data := .fields #[] } ∧ (K w.params).lookup TB = none ∧ PySem.W.CodeHd h c TB)
    (F : ∀ (w : World) (mg : Str → Option Value) (fa : Addr) (h : Heap),
          (K w.params).In h → h.Ns mainGlobals mg → mg d.name = some (.ref fa) →
      ∃ fd : FuncData, (∀ (s : Shared) (u : Value), BindsTo s fd ⟨[u], []⟩ [("_law_script", u)]) ∧ ∀ base : Heap, (K w.params).In base → base.Ns mainGlobals mg → TabB base mg c TB → FnG l.prog w (K w.params) mg base CX0 9 fa fd p_law (spLaw TB (K w.params))) :
    PySem.W.WalkO q loose XP YP l.row.toRowW
          d [] (fun f vs => PySem.call f vs) := by
  refine walkGT (K := K) (n := 63) (k := 9) (x := "_law_script") (cs := [(c, TB)]) (sp := fun K => spLaw TB K) hn (by decide) hdf ⟨rfl, by decide, by decide⟩ (fun w h Y => ?_) (fun w mg fa h KX G hm => ?_) (fun _ _ a ns _ hT hS => ⟨a, ns, rfl, hS, hT (c, TB) (List.mem_singleton.mpr rfl), fun _ => rfl⟩)
  · obtain ⟨y1, y2, y3, y4⟩ := hY w h Y
    refine ⟨y1, fun p hp => ?_, fun p hp => ?_, fun p hp => ?_⟩ <;> rw [List.mem_singleton.mp hp]
    · exact y2
    · exact y3
    · exact y4
  · obtain ⟨fd, b, z⟩ := F w mg fa h KX G hm
    exact ⟨fd, b, fun base h1 h2 h3 => z base h1 h2 (h3 (c, TB) (List.mem_singleton.mpr rfl))⟩
theorem law_all {l : PySem.W.OpenLaw} {w : World} {K : PySem.W.Frag} {h : Heap} {mg : Str → Option Value} {fa f1 c TB CP CF fP fF : Addr} {qP qF : Str} (X : K.In h) (G : h.Ns mainGlobals mg) (hfa : mg "law" = some (.ref fa)) (T : Bl mg) (mG : mg "gcd" = some (.builtin "math.gcd"))
    (EP : ∃ fdP, Err K mg "InvalidPoint" qP sErrP CP fP fdP) (EF : ∃ fdF, Err K mg "InvalidFraction" qF sErrF CF fF fdF) (iP : PySem.W.isClsIn K CP = true) (iF : PySem.W.isClsIn K CF = true)
    (sPP : PySem.W.subIn K (.ref CP) (.ref CP) = some true) (sFP : PySem.W.subIn K (.ref CF) (.ref CP) = some false) (sFF : PySem.W.subIn K (.ref CF) (.ref CF) = some true)
    (D0 : Ur.Fnd K mg "common_divisor" sCom K7.p_common_divisor) (D1 : Ur.Fnd K mg "is_whole" sWhole K7.n_is_whole) (D2 : Ur.Fnd K mg "wholes_fit" sWholes K7.p_wholes_fit) (D3 : Ur.Fnd K mg "fraction_fits" sFracF K7.n_value) (D4 : Ur.Fnd K mg "point_fits" sPointF K7.n_value) (D5 : Ur.Fnd K mg "sign_of" sSign K7.p_n) (D6 : Ur.Fnd K mg "ratio" sRatio K7.p_ratio) (D7 : Ur.Fnd K mg "place" sPlace K7.p_place) (D8 : Ur.Fnd K mg "place_sum" sPSum K7.p_po) (D9 : Ur.Fnd K mg "way_to" sWayTo K7.p_po) (D10 : Ur.Fnd K mg "place_times" sPTimes K7.p_pf) (D11 : Ur.Fnd K mg "place_between" sPBetw K7.p_pof) (D12 : Ur.Fnd K mg "inner_of" sInnerOf K7.p_po) (D13 : Ur.Fnd K mg "cross_of" sCrossOf K7.p_po) (D14 : Ur.Fnd K mg "quarter_of" sQuarterOf K7.p_p) (D15 : Ur.Fnd K mg "line_through_both" sLine K7.p_po) (D16 : Ur.Fnd K mg "side_of" sSideOf K7.p_pot) (D17 : Ur.Fnd K mg "check_point" sChkP K7.n_value) (D18 : Ur.Fnd K mg "check_fraction" sChkF K7.n_value) (D19 : Ur.Fnd K mg "plus" sPlus K7.p_po) (D20 : Ur.Fnd K mg "minus" sMinus K7.p_po) (D21 : Ur.Fnd K mg "times" sTimes K7.p_pf) (D22 : Ur.Fnd K mg "between" sBetween K7.p_pof) (D23 : Ur.Fnd K mg "inner" sInner K7.p_po) (D24 : Ur.Fnd K mg "cross" sCross K7.p_po) (D25 : Ur.Fnd K mg "quarter" sQuarter K7.p_p) (D26 : Ur.Fnd K mg "sense" sSense K7.p_pot) (D27 : Ur.Fnd K mg "_law_urn" sUrn K7.p_law_urn) (D28 : Ur.Fnd K mg "_law_pull" sPull ["_law_urn_here", "_law_many"]) (D29 : Ur.Fnd K mg "_law_any" sAny K7.p_law_any) (D30 : Ur.Fnd K mg "_law_laps" sLaps K7.p_law_laps) (D31 : Ur.Fnd K mg "_law_gcd" sGcd K7.p_law_gcd) (D32 : Ur.Fnd K mg "_law_thin" sThin K7.p_law_thin) (D33 : Ur.Fnd K mg "_law_is_whole" sLWhole K7.n_law_is_whole) (D34 : Ur.Fnd K mg "_law_are_whole" sAre K7.p_law_are_whole) (D35 : Ur.Fnd K mg "_law_is_frac" sLFrac K7.n_lthing) (D36 : Ur.Fnd K mg "_law_is_spot" sLSpot K7.n_lthing) (D37 : Ur.Fnd K mg "_law_odd" sOdd K7.p_law_odd) (D38 : Ur.Fnd K mg "_law_told" sTold K7.p_law_told) (D39 : Ur.Fnd K mg "_law_due" sDue K7.p_law_due) (D40 : FndC K mg "_law_right" sRight K7.p_law_right c)
    {oc kV dc pm cd ct : Value} {od an : Option Addr} {sl : Array (Option Value)} (a : PySem.W.nsIn K mainGlobals "law" = some (some (.ref f1)))
    (lk : K.lookup f1 = some ⟨oc, od, .func (PySem.W.fnOf "law" "law" (defArgs sLaw) (defBody sLaw) (defScope sLaw) .none kV dc pm an cd ct), sl⟩) (cc : PySem.W.codeIn K cd "law" = true) (k : PySem.W.keepIn K (.ref f1) = true) :
    ∃ fd : FuncData, (∀ (s : Shared) (u : Value), BindsTo s fd ⟨[u], []⟩ [("_law_script", u)]) ∧ ∀ base : Heap, K.In base → base.Ns mainGlobals mg → TabB base mg c TB → FnG l.prog w K mg base CX0 9 fa fd p_law (spLaw TB K) := by
  obtain rfl : fa = f1 := by
    have e := hfa.symm.trans (PySem.W.mg_of X G a)
    cases e
    rfl
  obtain ⟨fdP, EP⟩ := EP
  obtain ⟨fdF, EF⟩ := EF
  have EX : ErrX K CP CF := ⟨exm_of EP.xf.exC iP EP.oex.tyC sPP, exm_of EP.xf.exC iP EP.oex.tyC sFP, exm_of EF.xf.exC iF EF.oex.tyC sFF, EP.xf, EF.xf, EP.noG, EF.noG⟩
  exact ⟨_, fun s u => .of_eq rfl, fun base _ _ TBB => all_ok (fun_mk lk cc k) T mG EP EF EX TBB D0 D1 D2 D3 D4 D5 D6 D7 D8 D9 D10 D11 D12 D13 D14 D15 D16 D17 D18 D19 D20 D21 D22 D23 D24 D25 D26 D27 D28 D29 D30 D31 D32 D33 D34 D35 D36 D37 D38 D39 D40⟩
end K7

open PySem PySem.W
      PyProof.Rows
set_option
      maxRecDepth 100000 in
set_option maxHeartbeats 0 in
theorem PySem.Challenge.cw_hullrests_k04_points_refused_holds : PySem.Challenge.rw_hullrests_k04_points_refused.Holds := by
  w_on; o_law; k_head;
        (case hw => w_witness2)
  k_fill
  refine K7.walk7 (l := PySem.Challenge.rw_hullrests_k04_points_refused) (c := 371) (TB := 369) rfl rfl (fun w h Y => ⟨PySem.W.km_in_of Y, PySem.W.km_tabs_of Y 369 (List.mem_singleton.mpr rfl), by kernel_rfl, PySem.W.codeHd_of_K (PySem.W.km_in_of Y) (by kernel_rfl)⟩) ?F
  case F =>
    intro w mg fa h KX G hmg
    have T : K7.Bl mg := by
      refine' ⟨PySem.W.mg_none_of KX G ?_, PySem.W.mg_none_of KX G ?_, PySem.W.mg_none_of KX G ?_, PySem.W.mg_none_of KX G ?_, PySem.W.mg_none_of KX G ?_, PySem.W.mg_none_of KX G ?_, PySem.W.mg_none_of KX G ?_, PySem.W.mg_none_of KX G ?_, PySem.W.mg_none_of KX G ?_, PySem.W.mg_none_of KX G ?_, PySem.W.mg_none_of KX G ?_, PySem.W.mg_none_of KX G ?_⟩ <;> k_is
    have mG : mg "gcd" = some (.builtin "math.gcd") := by
      refine' PySem.W.mg_of KX G ?_
      k_is
    refine' K7.law_all KX G hmg T mG
      (K7.err_mk (x := "InvalidPoint") (qual := "InvalidPoint.__init__") (st := K7.sErrP) KX G ?pa ?pxL ?pxr ?psa ?pga ?pgg ?pnG ?piC ?ptI ?pl ?pc ?pk ?pkC ?peC ?ptC ?phC (fun _ _ _ _ _ _ us hl => match us, hl with | [_, _], _ => rfl))
      (K7.err_mk (x := "InvalidFraction") (qual := "InvalidFraction.__init__") (st := K7.sErrF) KX G ?qa ?qxL ?qxr ?qsa ?qga ?qgg ?qnG ?qiC ?qtI ?ql ?qc ?qk ?qkC ?qeC ?qtC ?qhC (fun _ _ _ _ _ _ us hl => match us, hl with | [_, _], _ => rfl))
      ?iP ?iF ?sPP ?sFP ?sFF
      (Ur.fnd_mk (x := "common_divisor") (st := K7.sCom) (ps := K7.p_common_divisor) KX G ?a0 ?l0 ?c0 ?k0 (fun _ _ _ _ _ _ us hl => match us, hl with | [_], _ => rfl))
      (Ur.fnd_mk (x := "is_whole") (st := K7.sWhole) (ps := K7.n_is_whole) KX G ?a1 ?l1 ?c1 ?k1 (fun _ _ _ _ _ _ us hl => match us, hl with | [_], _ => rfl))
      (Ur.fnd_mk (x := "wholes_fit") (st := K7.sWholes) (ps := K7.p_wholes_fit) KX G ?a2 ?l2 ?c2 ?k2 (fun _ _ _ _ _ _ us hl => match us, hl with | [_], _ => rfl))
      (Ur.fnd_mk (x := "fraction_fits") (st := K7.sFracF) (ps := K7.n_value) KX G ?a3 ?l3 ?c3 ?k3 (fun _ _ _ _ _ _ us hl => match us, hl with | [_], _ => rfl))
      (Ur.fnd_mk (x := "point_fits") (st := K7.sPointF) (ps := K7.n_value) KX G ?a4 ?l4 ?c4 ?k4 (fun _ _ _ _ _ _ us hl => match us, hl with | [_], _ => rfl))
      (Ur.fnd_mk (x := "sign_of") (st := K7.sSign) (ps := K7.p_n) KX G ?a5 ?l5 ?c5 ?k5 (fun _ _ _ _ _ _ us hl => match us, hl with | [_], _ => rfl))
      (Ur.fnd_mk (x := "ratio") (st := K7.sRatio) (ps := K7.p_ratio) KX G ?a6 ?l6 ?c6 ?k6 (fun _ _ _ _ _ _ us hl => match us, hl with | [_, _], _ => rfl))
      (Ur.fnd_mk (x := "place") (st := K7.sPlace) (ps := K7.p_place) KX G ?a7 ?l7 ?c7 ?k7 (fun _ _ _ _ _ _ us hl => match us, hl with | [_, _, _], _ => rfl))
      (Ur.fnd_mk (x := "place_sum") (st := K7.sPSum) (ps := K7.p_po) KX G ?a8 ?l8 ?c8 ?k8 (fun _ _ _ _ _ _ us hl => match us, hl with | [_, _], _ => rfl))
      (Ur.fnd_mk (x := "way_to") (st := K7.sWayTo) (ps := K7.p_po) KX G ?a9 ?l9 ?c9 ?k9 (fun _ _ _ _ _ _ us hl => match us, hl with | [_, _], _ => rfl))
      (Ur.fnd_mk (x := "place_times") (st := K7.sPTimes) (ps := K7.p_pf) KX G ?a10 ?l10 ?c10 ?k10 (fun _ _ _ _ _ _ us hl => match us, hl with | [_, _], _ => rfl))
      (Ur.fnd_mk (x := "place_between") (st := K7.sPBetw) (ps := K7.p_pof) KX G ?a11 ?l11 ?c11 ?k11 (fun _ _ _ _ _ _ us hl => match us, hl with | [_, _, _], _ => rfl))
      (Ur.fnd_mk (x := "inner_of") (st := K7.sInnerOf) (ps := K7.p_po) KX G ?a12 ?l12 ?c12 ?k12 (fun _ _ _ _ _ _ us hl => match us, hl with | [_, _], _ => rfl))
      (Ur.fnd_mk (x := "cross_of") (st := K7.sCrossOf) (ps := K7.p_po) KX G ?a13 ?l13 ?c13 ?k13 (fun _ _ _ _ _ _ us hl => match us, hl with | [_, _], _ => rfl))
      (Ur.fnd_mk (x := "quarter_of") (st := K7.sQuarterOf) (ps := K7.p_p) KX G ?a14 ?l14 ?c14 ?k14 (fun _ _ _ _ _ _ us hl => match us, hl with | [_], _ => rfl))
      (Ur.fnd_mk (x := "line_through_both") (st := K7.sLine) (ps := K7.p_po) KX G ?a15 ?l15 ?c15 ?k15 (fun _ _ _ _ _ _ us hl => match us, hl with | [_, _], _ => rfl))
      (Ur.fnd_mk (x := "side_of") (st := K7.sSideOf) (ps := K7.p_pot) KX G ?a16 ?l16 ?c16 ?k16 (fun _ _ _ _ _ _ us hl => match us, hl with | [_, _, _], _ => rfl))
      (Ur.fnd_mk (x := "check_point") (st := K7.sChkP) (ps := K7.n_value) KX G ?a17 ?l17 ?c17 ?k17 (fun _ _ _ _ _ _ us hl => match us, hl with | [_], _ => rfl))
      (Ur.fnd_mk (x := "check_fraction") (st := K7.sChkF) (ps := K7.n_value) KX G ?a18 ?l18 ?c18 ?k18 (fun _ _ _ _ _ _ us hl => match us, hl with | [_], _ => rfl))
      (Ur.fnd_mk (x := "plus") (st := K7.sPlus) (ps := K7.p_po) KX G ?a19 ?l19 ?c19 ?k19 (fun _ _ _ _ _ _ us hl => match us, hl with | [_, _], _ => rfl))
      (Ur.fnd_mk (x := "minus") (st := K7.sMinus) (ps := K7.p_po) KX G ?a20 ?l20 ?c20 ?k20 (fun _ _ _ _ _ _ us hl => match us, hl with | [_, _], _ => rfl))
      (Ur.fnd_mk (x := "times") (st := K7.sTimes) (ps := K7.p_pf) KX G ?a21 ?l21 ?c21 ?k21 (fun _ _ _ _ _ _ us hl => match us, hl with | [_, _], _ => rfl))
      (Ur.fnd_mk (x := "between") (st := K7.sBetween) (ps := K7.p_pof) KX G ?a22 ?l22 ?c22 ?k22 (fun _ _ _ _ _ _ us hl => match us, hl with | [_, _, _], _ => rfl))
      (Ur.fnd_mk (x := "inner") (st := K7.sInner) (ps := K7.p_po) KX G ?a23 ?l23 ?c23 ?k23 (fun _ _ _ _ _ _ us hl => match us, hl with | [_, _], _ => rfl))
      (Ur.fnd_mk (x := "cross") (st := K7.sCross) (ps := K7.p_po) KX G ?a24 ?l24 ?c24 ?k24 (fun _ _ _ _ _ _ us hl => match us, hl with | [_, _], _ => rfl))
      (Ur.fnd_mk (x := "quarter") (st := K7.sQuarter) (ps := K7.p_p) KX G ?a25 ?l25 ?c25 ?k25 (fun _ _ _ _ _ _ us hl => match us, hl with | [_], _ => rfl))
      (Ur.fnd_mk (x := "sense") (st := K7.sSense) (ps := K7.p_pot) KX G ?a26 ?l26 ?c26 ?k26 (fun _ _ _ _ _ _ us hl => match us, hl with | [_, _, _], _ => rfl))
      (Ur.fnd_mk (x := "_law_urn") (st := K7.sUrn) (ps := K7.p_law_urn) KX G ?a27 ?l27 ?c27 ?k27 (fun _ _ _ _ _ _ us hl => match us, hl with | [_, _], _ => rfl))
      (Ur.fnd_mk (x := "_law_pull") (st := K7.sPull) (ps := ["_law_urn_here", "_law_many"]) KX G ?a28 ?l28 ?c28 ?k28 (fun _ _ _ _ _ _ us hl => match us, hl with | [_, _], _ => rfl))
      (Ur.fnd_mk (x := "_law_any") (st := K7.sAny) (ps := K7.p_law_any) KX G ?a29 ?l29 ?c29 ?k29 (fun _ _ _ _ _ _ us hl => match us, hl with | [_, _], _ => rfl))
      (Ur.fnd_mk (x := "_law_laps") (st := K7.sLaps) (ps := K7.p_law_laps) KX G ?a30 ?l30 ?c30 ?k30 (fun _ _ _ _ _ _ us hl => match us, hl with | [_], _ => rfl))
      (Ur.fnd_mk (x := "_law_gcd") (st := K7.sGcd) (ps := K7.p_law_gcd) KX G ?a31 ?l31 ?c31 ?k31 (fun _ _ _ _ _ _ us hl => match us, hl with | [_, _], _ => rfl))
      (Ur.fnd_mk (x := "_law_thin") (st := K7.sThin) (ps := K7.p_law_thin) KX G ?a32 ?l32 ?c32 ?k32 (fun _ _ _ _ _ _ us hl => match us, hl with | [_], _ => rfl))
      (Ur.fnd_mk (x := "_law_is_whole") (st := K7.sLWhole) (ps := K7.n_law_is_whole) KX G ?a33 ?l33 ?c33 ?k33 (fun _ _ _ _ _ _ us hl => match us, hl with | [_], _ => rfl))
      (Ur.fnd_mk (x := "_law_are_whole") (st := K7.sAre) (ps := K7.p_law_are_whole) KX G ?a34 ?l34 ?c34 ?k34 (fun _ _ _ _ _ _ us hl => match us, hl with | [_, _], _ => rfl))
      (Ur.fnd_mk (x := "_law_is_frac") (st := K7.sLFrac) (ps := K7.n_lthing) KX G ?a35 ?l35 ?c35 ?k35 (fun _ _ _ _ _ _ us hl => match us, hl with | [_], _ => rfl))
      (Ur.fnd_mk (x := "_law_is_spot") (st := K7.sLSpot) (ps := K7.n_lthing) KX G ?a36 ?l36 ?c36 ?k36 (fun _ _ _ _ _ _ us hl => match us, hl with | [_], _ => rfl))
      (Ur.fnd_mk (x := "_law_odd") (st := K7.sOdd) (ps := K7.p_law_odd) KX G ?a37 ?l37 ?c37 ?k37 (fun _ _ _ _ _ _ us hl => match us, hl with | [_], _ => rfl))
      (Ur.fnd_mk (x := "_law_told") (st := K7.sTold) (ps := K7.p_law_told) KX G ?a38 ?l38 ?c38 ?k38 (fun _ _ _ _ _ _ us hl => match us, hl with | [_], _ => rfl))
      (Ur.fnd_mk (x := "_law_due") (st := K7.sDue) (ps := K7.p_law_due) KX G ?a39 ?l39 ?c39 ?k39 (fun _ _ _ _ _ _ us hl => match us, hl with | [_], _ => rfl))
      (K7.fndC_mk (c := 371) (x := "_law_right") (st := K7.sRight) (ps := K7.p_law_right) KX G ?a40 ?l40 ?c40 ?k40 (fun _ _ _ _ _ us hl => match us, hl with | [_], _ => rfl))
      ?a ?l ?c ?k
    (case pa => k_is); (case pxL => k_is); (case pxr => decide +kernel); (case psa => k_is); (case pga => k_is); (case pgg => k_is); (case pnG => k_is); (case piC => k_is); (case ptI => k_is); (case pl => k_is); (case pc => k_is); (case pk => k_is); (case pkC => k_is); (case peC => k_is); (case ptC => k_is); (case phC => k_is)
    (case qa => k_is); (case qxL => k_is); (case qxr => decide +kernel); (case qsa => k_is); (case qga => k_is); (case qgg => k_is); (case qnG => k_is); (case qiC => k_is); (case qtI => k_is); (case ql => k_is); (case qc => k_is); (case qk => k_is); (case qkC => k_is); (case qeC => k_is); (case qtC => k_is); (case qhC => k_is)
    (case iP => k_is); (case iF => k_is); (case sPP => first | rfl | k_is); (case sFP => first | rfl | k_is); (case sFF => first | rfl | k_is)
    (case a0 => k_is); (case l0 => k_is); (case c0 => k_is); (case k0 => k_is)
    (case a1 => k_is); (case l1 => k_is);
          (case c1 => k_is); (case k1 => k_is)
    (case a2 => k_is); (case l2 => k_is);
          (case c2 => k_is); (case k2 => k_is)
    (case a3 => k_is); (case l3 => k_is);
          (case c3 => k_is); (case k3 => k_is)
    (case a4 => k_is); (case l4 => k_is);
          (case c4 => k_is); (case k4 => k_is)
    (case a5 => k_is); (case l5 => k_is); (case c5 => k_is); (case k5 => k_is)
    (case a6 => k_is); (case l6 => k_is); (case c6 => k_is); (case k6 => k_is)
    (case a7 => k_is); (case l7 => k_is); (case c7 => k_is); (case k7 => k_is)
    (case a8 => k_is); (case l8 => k_is); (case c8 => k_is); (case k8 => k_is)
    (case a9 => k_is); (case l9 => k_is); (case c9 => k_is); (case k9 => k_is)
    (case a10 => k_is); (case l10 => k_is); (case c10 => k_is); (case k10 => k_is)
    (case a11 => k_is); (case l11 => k_is); (case c11 => k_is); (case k11 => k_is)
    (case a12 => k_is); (case l12 => k_is); (case c12 => k_is); (case k12 => k_is)
    (case a13 => k_is); (case l13 => k_is); (case c13 => k_is); (case k13 => k_is)
    (case a14 => k_is); (case l14 => k_is); (case c14 => k_is); (case k14 => k_is)
    (case a15 => k_is); (case l15 => k_is); (case c15 => k_is); (case k15 => k_is)
    (case a16 => k_is); (case l16 => k_is); (case c16 => k_is); (case k16 => k_is)
    (case a17 => k_is); (case l17 => k_is); (case c17 => k_is); (case k17 => k_is)
    (case a18 => k_is); (case l18 => k_is); (case c18 => k_is); (case k18 => k_is)
    (case a19 => k_is); (case l19 => k_is); (case c19 => k_is); (case k19 => k_is)
    (case a20 => k_is); (case l20 => k_is); (case c20 => k_is); (case k20 => k_is)
    (case a21 => k_is); (case l21 => k_is); (case c21 => k_is); (case k21 => k_is)
    (case a22 => k_is); (case l22 => k_is); (case c22 => k_is); (case k22 => k_is)
    (case a23 => k_is); (case l23 => k_is); (case c23 => k_is); (case k23 => k_is)
    (case a24 => k_is); (case l24 => k_is); (case c24 => k_is); (case k24 => k_is)
    (case a25 => k_is); (case l25 => k_is); (case c25 => k_is); (case k25 => k_is)
    (case a26 => k_is); (case l26 => k_is); (case c26 => k_is); (case k26 => k_is)
    (case a27 => k_is); (case l27 => k_is); (case c27 => k_is); (case k27 => k_is)
    (case a28 => k_is); (case l28 => k_is); (case c28 => k_is); (case k28 => k_is)
    (case a29 => k_is); (case l29 => k_is); (case c29 => k_is); (case k29 => k_is)
    (case a30 => k_is); (case l30 => k_is); (case c30 => k_is); (case k30 => k_is)
    (case a31 => k_is); (case l31 => k_is); (case c31 => k_is); (case k31 => k_is)
    (case a32 => k_is); (case l32 => k_is); (case c32 => k_is); (case k32 => k_is)
    (case a33 => k_is); (case l33 => k_is); (case c33 => k_is); (case k33 => k_is)
    (case a34 => k_is); (case l34 => k_is); (case c34 => k_is); (case k34 => k_is)
    (case a35 => k_is); (case l35 => k_is); (case c35 => k_is); (case k35 => k_is)
    (case a36 => k_is); (case l36 => k_is); (case c36 => k_is); (case k36 => k_is)
    (case a37 => k_is); (case l37 => k_is); (case c37 => k_is); (case k37 => k_is)
    (case a38 => k_is); (case l38 => k_is); (case c38 => k_is); (case k38 => k_is)
    (case a39 => k_is); (case l39 => k_is); (case c39 => k_is); (case k39 => k_is)
    (case a40 => k_is); (case l40 => k_is); (case c40 => k_is); (case k40 => k_is)
    (case a => k_is); (case l => k_is); (case c => k_is); (case k => k_is)
#print axioms PySem.Challenge.cw_hullrests_k04_points_refused_holds

