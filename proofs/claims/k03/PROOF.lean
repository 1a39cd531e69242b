import PyProof.Rows.All
import Wide.All
import OpenK.AllK
import Wide.FinOn
import PyProof.EqAt
import PyProof.EqKinds
import PyProof.TupleCall
import HandS.Base
import HandS.Call
import HandS.List
import HandS.Comp
import HandS.Ends
import HandS.Words
import PyProof.ReprRoads
import HandS.Dict
import HandS.Iter
import HandS.Text
import HandS.WordsList
import HandS.Conv
import HandS.IsInst
import HandS.Gcd
import HandS.Wide
import HandS.Defaults
import HandS.Style
import PySem.Challenge.RW_hullrests_k03_points_reckoned_with
set_option Elab.async false
set_option linter.all false
set_option maxRecDepth 100000
namespace Ur
open PySem L2

def nums (a b c : Int) : List V := [.int a, .int b, .int c]
structure Bd (a b c : Int) : Prop where
  a0 : 0 ≤ a
  b0 : 0 ≤ b
  b1 : b < 4294967296
  c0 : 0 ≤ c
  c1 : c < 4294967296
/-- an urn: a list of three numbers within bounds, whichever -/
def UrnO (u : Addr) : HO := .ext fun h => ∃ (a b c : Int) (its : List Value) (n : Nat), Bd a b c ∧ Vals (nums a b c) its ∧ h.get? u = some { cls := .type "list", data := .seq its.toArray n }

section
variable {X : Cx} {pins : List (Addr × Obj)} {σ : L2.St} {H : Hp} {s : Shared} {u : Addr}
theorem urnOpen (I : Inv X pins σ H s) (h : H u = some (UrnO u)) : ∃ a b c, Bd a b c ∧ Inv X pins σ (upd H u (.lst (nums a b c))) s := by
  obtain ⟨⟨a, b, c, its, n, B, r, e⟩, _⟩ := I.hok u _ h
  refine ⟨a, b, c, B, I.write (x := u) (e := u) (t' := s.toks) (h' := s.heap) (by rw [h]; exact trivial) (.inl rfl) (fun b v _ q => q) ⟨_, e⟩ ?_⟩
  exact ⟨by show 3 ≤ sizeLine; decide, its, n, r, e⟩
theorem urnShut {a b c : Int} (I : Inv X pins σ H s) (h : H u = some (.lst (nums a b c))) (B : Bd a b c) : Inv X pins σ (upd H u (UrnO u)) s := by
  obtain ⟨_, its, n, r, e⟩ := I.hok u _ h
  refine I.write (x := u) (e := u) (t' := s.toks) (h' := s.heap) (by rw [h]; exact trivial) (.inl rfl) (fun b v _ q => q) ⟨_, e⟩ ?_
  exact ⟨⟨a, b, c, its, n, B, r, e⟩, ⟨_, e⟩, fun h1 h2 ⟨a, b, c, its, n, B, r, e⟩ k => ⟨a, b, c, its, n, B, r, k _ e⟩⟩
end
theorem upd_back {H : Hp} {u : Addr} {o p : HO} (h : H u = some o) : upd (upd H u p) u o = H := by
  funext b
  by_cases e : b = u
  · rw [e, upd_same, h]
  · rw [upd_ne e, upd_ne e]

def Shut (u : Addr) (Q : Hp → Prop) (H : Hp) : Prop := ∃ a b c, Bd a b c ∧ H u = some (.lst (nums a b c)) ∧ Q (upd H u (UrnO u))
/-- the statements run while the urn is seen as a list -/
def tUrn (t : TS) : TS := fun D σ H => ∃ u, H u = some (UrnO u) ∧ ∀ a b c, Bd a b c → t ⟨fun σ' H' => Shut u (D.nx σ') H', fun v H' => Shut u (D.rt v) H', fun σ' H' => Shut u (D.bk σ') H', fun σ' H' => Shut u (D.ct σ') H'⟩ σ (upd H u (.lst (nums a b c)))
def tShut (t : TE) : TE := fun σ H Q => t σ H fun v H1 => ∃ u, v = .ref u ∧ Shut u (Q v) H1
section
variable {X : Cx}
theorem pss_urn {sts : List Stmt} {t : TS} (h : PSs X sts t) : PSs X sts (tUrn t) := by
  refine ⟨fun pins s
        σ H D I hw => ?_⟩
  obtain ⟨u, hu, hw⟩ := hw
  obtain ⟨a, b, c, B, I1⟩ := urnOpen I hu
  refine thn (h.run pins s σ _ _ I1 (hw a b c B)) fun f s1 q => ?_
  cases f with
  | next => obtain ⟨σ', H', I2, a, b, c, B, e, q⟩ := q; exact ⟨σ', _, urnShut I2 e B, q⟩
  | brk => obtain ⟨σ', H', I2, a, b, c, B, e, q⟩ := q; exact ⟨σ', _, urnShut I2 e B, q⟩
  | cont => obtain ⟨σ', H', I2, a, b, c, B, e, q⟩ := q; exact ⟨σ', _, urnShut I2 e B, q⟩
  | ret v => obtain ⟨x, σ', H', I2, r, a, b, c, B, e, q⟩ := q; exact ⟨x, σ', _, urnShut I2 e B, r, q⟩
theorem pe_shut {e : Expr} {t : TE} (h : PE X e t) : PE X e (tShut t) := by
  refine ⟨fun pins s
        σ H Q I hw => ?_⟩
  refine thn (h.run pins s σ _ _ I hw) fun v s1 ⟨x, H1, I2, r, u, e1, a, b, c, B, e2, q⟩ => ?_
  exact ⟨x, _, urnShut I2 e2 B, r, q⟩
/-- repr of data -/
def rRepr (K : PySem.W.Frag) : List V → Hp → VK → Prop := fun xs H Q => ∃ (a : Addr) (d : PyData), xs = [.ref a] ∧ Dp K H (.ref a) d ∧ d.showable = true ∧ d.hasDict = false ∧ d.shown.length ≤ sizeLine ∧ d.depth ≤ 60 ∧ Q (.str d.shown) H
end
end Ur
namespace Ur
open PySem L2
section
variable {X : Cx}
theorem call_repr (hg : X.A.guards = some []) (hu : X.A.units + 64 < cLine) : CallR X (.builtin "repr") (rRepr X.K) := by
  intro pins s σ
        H xs us Q I r h
  obtain ⟨a, d, rfl, hd, h1, h2, h3, h4, q⟩ := h
  cases r with
  | cons ra rn =>
    cases rn
    obtain rfl := (show _ = Value.ref a from ra)
    obtain ⟨as, hr⟩ := Dp.reads I d _ _ hd rfl
    exact repr_of_reads' hr h1 (fun z => by rw [h2] at z; cases z) hg (by omega) (fun b o e => e) (fun h' u tk hk => ⟨.str d.shown, H, I.kept hk, ⟨u, rfl⟩, q⟩) h3
end
/-- a def's promise where no repr runs around it -/
structure FnG (P : Program) (w : World) (K : PySem.W.Frag) (mg : Str → Option Value) (base : Heap) (CX : CXT) (k : Nat) (f : Addr) (fd : FuncData) (ps : List Str) (sp : Sp) : Prop where
  lens : ∀ vs H Q E, sp vs H Q E → vs.length = ps.length
  go : ∀ (A : Around) (outer : List Env) (s : Shared) (H : Hp) (args : Args) (us : List Value) (vs : List V) (Q : VK) (E : XK), A.guards = some [] → Room k A → Env0 P w K mg base A outer s H →
    BindsTo s fd args (ps.zip us) → Vals vs us → sp vs H Q E → codeAny (model P w) A (.call (.ref f) args) (CR CX outer P w H s Q E) s
section
variable {X : Cx} {CX : CXT} {k : Nat} {f : Addr} {fd : FuncData} {ps : List Str} {sp : Sp} {E : XK} {ds : List Value} {dvs : List V}
theorem callG {x : Str} {p pos : Pos} {e : Expr} {es : List Expr} {t : TA} (F : FnG X.prog X.w X.K X.mg X.base CX k f fd ps sp) (hg : X.A.guards = some []) (hr : Room k X.A) (hgl : Gl X x) (hm : X.mg x = some (.ref f))
    (hk : PySem.W.keepIn X.K (.ref f) = true) (hb : Binds X.K fd ps []) (hx : Passes CX X E) (ha : PA X (e :: es) t) (hdb : (x == ("__debug__" : Str)) = false := by decide)
    (he : starEach (e :: es) X.env = (false, eval e X.env) :: starEach es X.env :=
          by rfl) (hpl : (backTo pos (starEach es X.env)).any (·.1) = false := by rfl) :
    PE X (.Call (.Name x p) (e :: es) [] pos) (tCall sp [] E t) := by
  constructor
  intro pins s σ H Q I h
  apply wpAny_Call_Name_kw
  apply ld_glob I hgl hm _ hdb
  apply PySem.W.callWith_K (h₀ := X.base) I.ok.mod.kin hk _ he hpl
  refine thn (ha.run pos pins s σ H _ I h) ?_
  rintro us s1 ⟨vs, H1, I1, r, q⟩
  refine ⟨I1.kIn, ?_⟩
  have q' : sp vs H1 Q E := by simpa using q
  have hl : us.length = ps.length := by
    rw [← r.length]
    exact F.lens _ _ _ _ q'
  have b1 : BindsTo s1 fd ⟨us, []⟩ (ps.zip us) := by simpa using hb s1 us I1.kIn (by simpa using hl)
  apply wpAny_call
  refine codeAny_mono (F.go X.A X.stack s1 H1 ⟨us, []⟩ us vs Q E hg hr I1.env0 b1 r q') ?_
  intro res s' hq
  match res, hq with
  | .error e, hq => exact hx pins σ H1 s1 e s' I1 hq
  | .ok (.ret u), hq => exact I1.after hq
end
end Ur

namespace Ur
open PySem L2 PyProof.Rows
section
variable {P : Program} {w : World} {K :
      PySem.W.Frag} {mg : Str → Option Value} {base : Heap}
/-- the rule for a def that asks that no repr runs around it -/
theorem okG {x qual : Str} {st : Stmt} {f : Addr} {fd : FuncData} {N ps : List Str} {k : Nat} {sp : Sp} (F : Fun K x qual st f fd) (S : FnScope N ps (defScope st))
    (len : ∀ vs H Q E, sp vs H
          Q E → vs.length = ps.length)
    (body : ∀ (cdv : Value) (A : Around) (outer : List Env) (s : Shared) (H : Hp) (vs : List V) (Q : VK) (E : XK), A.guards = some [] → Room k (A.deeper (envOfC qual (defScope st) s.heap.objs.size f cdv)) →
      sp vs H Q E → ∃ t, PSs (cxOf CX0 P w K mg base N qual (defScope st) f cdv A outer s H E).nox (defBody st) t ∧ t { nx := fun _ H' => Q .non H', rt := Q } (start N vs) H) :
    FnG P w K mg base CX0 (k + 1) f fd ps sp := by
  obtain ⟨oc, od, kV, doc, pm, an,
        cdv, ct, osl, rfl, lk, hcd⟩ := F.ex
  refine ⟨len, ?_⟩
  intro A outer s H args us vs Q E hg hr e0 hb r hsp
  have old : ∀ b o, base.get? b = some o → s.heap.get? b = some o := fun b o e => (e0.bs b o e).1
  have KX := e0.mod.kin.keeps old
  apply codeAny_call_function hr.depth (KX _ _ lk) rfl S.co S.gen rfl (PySem.W.codeRec_of KX hcd)
  apply hb
  apply wpAny_newFunctionEnv_cells S.kind
  · rintro ⟨n, v⟩ hy
    have hn := (List.of_mem_zip hy).1
    cases S.par n hn with
    | inl q => exact Or.inl q
    | inr q => exact Or.inr ⟨q, PySem.W.cellsFrom_some _ _ _ (Or.inl q)⟩
  intro env he s1 x
  subst he
  refine ⟨(e0.mod.nolimit.keeps old).keeps x.toInCall.keep, ?_⟩
  apply codeAny_func
  obtain ⟨t, ht, hq⟩ := body cdv A outer s H vs Q E hg (hr.deeper _) hsp
  have I := inv_start (CX := CX0) (E := E) S hr.hd e0 (len _ _ _ _ hsp) r x
  refine wpAny_mono (ht.nox.run [] s1 (start N vs) H _ I hq) ?_ (fun _ _ z => z)
  intro fl s' hs
  match fl, hs with
  | .ret u, ⟨v, _, H', J, rv, q⟩ => exact ⟨v, H', J.os, J.bare, J.base, J.hok, rv, q⟩
  | .next, ⟨_, H', J, q⟩ => exact ⟨V.non, H', J.os, J.bare, J.base, J.hok, rfl, q⟩
  | .brk, ⟨_, _, _, q⟩ => exact False.elim q
  | .cont, ⟨_, _, _, q⟩ => exact False.elim q
end
end Ur

namespace Ur
open PySem L2 PyProof.Rows
section
variable {P : Program} {w : World} {K : PySem.W.Frag} {mg mb : Str → Option Value} {k : Nat} {fa a : Addr} {fd : FuncData} {x : Str} {sp : Sp} {s1 : Shared} {vs : List Value} {ns : List Int}
abbrev Goes (fa a : Addr) (P : Program) (w : World) (s1 : Shared) : Prop :=
  codeAny (model P w) callerA (.call (.ref fa) ⟨[.ref a], []⟩) (fun r s' => r = .ok (.ret (.bool true)) ∧ OldK s1.heap s'.heap ∧ s'.os = s1.os ∧ AllBare s'.gens) s1
/-- from an abstract heap that tracks the script at most -/
theorem goes_of {H : Hp} (KX : K.In s1.heap) (hns : s1.heap.Ns mainGlobals mg) (hb : s1.heap.Ns builtinsNs mb) (hbb : ∀ y : Str, y ≠ "__name__" → mb y = bootBuiltins y) (hlim : s1.heap.NoLimit) (hg : s1.gens = #[])
    (ha : s1.heap.get? a = some { cls := .type "list", data := .seq vs.toArray }) (hr : Room k callerA)
    (F : ∀ base : Heap, K.In base → base.Ns mainGlobals mg → FnG P w K mg base CX0 k fa fd [x] sp) (bind : ∀ (s : Shared) (u : Value), BindsTo s fd ⟨[u], []⟩ [(x, u)])
    (hok : HOk P w H s1.heap) (hsp : sp [.ref a] H (fun v _ => v = .bl true) fun _ _ _ => False)
    (one : ∀ b, H b = none ∨ (b = a ∧ K.lookup a = none ∧ ∃ o ys, H b = some (.frz o (.lst ys)))) : Goes fa a P w s1 := by
  have seen : ∀ {b o}, s1.heap.get? b = some o → H b = none → (hidT s1.heap H).get? b = some o := fun e z => hidT_get e z
  have notD : ∀ {b o es ep}, s1.heap.get? b = some o → o.data = .dict es ep → H b = none := by
    intro b o es ep e d
    rcases one b with z | ⟨rfl, _, _⟩
    · exact z
    · rw [ha] at e
      obtain rfl := Option.some.inj e
      cases (show Data.seq vs.toArray _ = Data.dict es ep from d)
  have up : ∀ {b m}, s1.heap.Ns b m → (hidT s1.heap H).Ns b m := by
    rintro b m ⟨o, es, ep, e, d, r⟩
    exact ⟨o, es, ep, seen e (notD e d), d, r⟩
  have KB : K.In (hidT s1.heap H) := by
    intro b o e
    refine seen (KX b o e) ?_
    rcases one b with z | ⟨rfl, z, _⟩
    · exact z
    · rw [z] at e; cases e
  obtain ⟨mc, l1, l2⟩ := hlim
  have M : Mod K mg (hidT s1.heap H) := { kin := KB, glob := up hns, blt := ⟨mb, up hb, hbb⟩, nolimit := ⟨mc, up l1, l2⟩ }
  have e0 : Env0 P w K mg (hidT s1.heap H) callerA [] s1 H :=
    { frames := rfl, mod := M, bs := fun b o e => of_hidT e, bsz := Nat.le_of_eq (hidT_size _ _), funs := trivial, frf := fun b z => (by cases (show b ∈ ([] : List Addr) from z)), hok := hok, bare := .of_eq hg }
  refine codeAny_mono ((F _ KB (up hns)).go callerA [] s1 H ⟨[.ref a], []⟩ [.ref a] [.ref a] _ _ rfl hr e0 (bind s1 (.ref a)) (.cons rfl .nil) hsp) ?_
  intro r s' h
  match r, h with
  | .ok (.ret u), ⟨v, H', os, bare, un, hok', rv, hv⟩ =>
    obtain rfl : v = .bl true := hv
    obtain rfl : u = Value.bool true := rv
    refine ⟨rfl, OldK.of_keep ?_, os, bare⟩
    intro b o e
    rcases one b with z | ⟨rfl, _, oo, ys, z⟩
    · exact un.keep b o e z (fun q => (by cases (show b ∈ ([] : List Addr) from q))) (fun q => nomatch q)
    · have e1 := (hok b _ z).1
      have e2 := (hok' b _ (un.frzs b oo _ z)).1
      rw [e] at e1
      obtain rfl :=
            Option.some.inj e1
      exact e2
theorem goes (KX : K.In s1.heap) (hns : s1.heap.Ns mainGlobals mg) (hb : s1.heap.Ns builtinsNs mb) (hbb : ∀ y : Str, y ≠ "__name__" → mb y = bootBuiltins y) (hlim : s1.heap.NoLimit) (hg : s1.gens = #[])
    (ha : s1.heap.get? a = some { cls := .type "list", data := .seq vs.toArray }) (hi : IntsAre vs ns) (hl : ns.length ≤ sizeLine) (hr : Room k callerA)
    (F : ∀ base : Heap, K.In base → base.Ns mainGlobals mg → FnG P w K mg base CX0 k fa fd [x] sp) (bind : ∀ (s : Shared) (u : Value), BindsTo s fd ⟨[u], []⟩ [(x, u)])
    (hsp : ∀ H : Hp, SqL K H a (ns.map V.int) → sp [.ref a] H (fun v _ => v = .bl true) fun _ _ _ => False) : Goes fa a P w s1 := by
  have rv := vals_ints hi
  cases hk : K.lookup a with
  | some o =>
    have e := KX a o hk
    rw [ha] at e
    obtain rfl := Option.some.inj e
    refine goes_of (H := fun _ => none) KX hns hb hbb hlim hg ha hr F bind (fun b u z => nomatch z) (hsp _ (Or.inr ⟨_, vs.toArray, _, hk, rfl, rfl, rfl, ?_, ?_⟩)) (fun b => Or.inl rfl)
    · rw [List.size_toArray, hi.length]; exact hl
    · exact rv
  | none =>
    let o : Obj := { cls := .type "list", data := .seq vs.toArray }
    let H : Hp := upd (fun _ => none) a (.frz o (.lst (ns.map V.int)))
    have hH : H a = some (.frz o (.lst (ns.map V.int))) := upd_same
    refine goes_of (H := H) KX hns hb hbb hlim hg ha hr F bind ?_ (hsp H (Or.inl (Or.inr ⟨o, hH⟩))) ?_
    · intro b u z
      by_cases e : b = a
      · subst e
        rw [hH] at z
        obtain rfl := Option.some.inj z
        refine ⟨ha, ?_, vs, _, rv, ha⟩
        rw [List.length_map]
        exact hl
      · rw [show H b = none from upd_ne e] at z
        cases z
    · intro b
      by_cases e : b = a
      · exact Or.inr ⟨e, hk, o, _, by rw [e]; exact hH⟩
      · exact Or.inl (upd_ne e)
end
theorem walkG {l : PySem.W.OpenLaw} {n k : Nat} {q : Program} {loose : List Str} {XP : (Str → Option Value) → Heap → Prop} {YP : World → Heap → Prop} {d : DefRec} {K : Params → PySem.W.Frag} {sp : PySem.W.Frag → Sp} {x : Str}
    (hn : l.most = some n) (hn2 : n ≤ sizeLine) (hdf : d.params.defaults = []) (hr
          : Room k callerA) (hY : ∀ (w : World) (h : Heap), YP w h → (K w.params).In h)
    (F : ∀ (w : World) (mg : Str → Option Value) (fa : Addr) (h : Heap),
          (K w.params).In h → h.Ns mainGlobals mg → mg d.name = some (.ref fa) →
      ∃ fd : FuncData, (∀ (s : Shared) (u : Value), BindsTo s fd ⟨[u], []⟩ [(x, u)]) ∧ ∀ base : Heap, (K w.params).In base → base.Ns mainGlobals mg → FnG l.prog w (K w.params) mg base CX0 k fa fd [x] (sp (K w.params)))
    (hsp : ∀ (K : PySem.W.Frag) (H : Hp) (a : Addr) (ns : List Int), ns.length ≤ n → SqL K H a (ns.map V.int) → sp K [.ref a] H (fun v _ => v = .bl true) fun _ _ _ => False) :
    PySem.W.WalkO q loose XP YP l.row.toRowW
          d [] (fun f vs => PySem.call f vs) := by
  apply Att.attach_call hn hdf
  intro w s0 s1 mg mb fa o pm cd doc a vs ns G Y ho hd hcd hmg hobj hints hlen hg
  obtain ⟨fd, hb, hF⟩ := F w mg fa _ (hY w _ Y) G.T.g hmg
  exact goes (hY w _ Y) G.T.g G.T.b G.T.builtins G.T.nolimit hg hobj hints (Nat.le_trans hlen hn2) hr hF hb fun H hS => hsp _ H a ns hlen hS
end Ur

namespace Ur
open PySem L2
/-- the def of this name keeps this promise -/
def Has (P : Program) (w : World) (K : PySem.W.Frag) (mg : Str → Option Value) (base : Heap) (x : Str) (ps : List Str) (k : Nat) (sp : Sp) : Prop :=
  ∃ f fd, FnOk P w K mg base CX0 k f fd ps sp ∧ mg x = some (.ref f) ∧ PySem.W.keepIn K (.ref f) = true ∧ Binds K fd ps []
/-- the def stands there -/
def Fnd (K : PySem.W.Frag) (mg : Str → Option Value) (x : Str) (st : Stmt) (ps : List Str) : Prop :=
  ∃ f fd, Fun K x x st f fd ∧ mg x = some (.ref f) ∧ Binds K fd ps []
def KwAll (K : PySem.W.Frag) (fd : FuncData) (ps : List Str) : Prop := KBinds K fd ps ps (fun us ws => us ++ ws) (fun vs zs => vs ++ zs)
section
variable {X : Cx} {x : Str} {p pos : Pos} {e : Expr} {es : List Expr} {t tk : TA} {ps : List Str} {k : Nat} {sp : Sp} {kws : List Keyword}
theorem pe_has (h : Has X.prog X.w X.K X.mg X.base x ps k sp) (hr : Room k X.A) (hg : Gl X x) (ha : PA X (e :: es) t) (hdb : (x == ("__debug__" : Str)) = false := by decide)
    (he : starEach (e :: es) X.env = (false, eval e X.env) :: starEach es X.env :=
          by rfl) (hpl : (backTo pos (starEach es X.env)).any (·.1) = false := by rfl) :
    PE X (.Call (.Name x p) (e :: es) [] pos) (tCall sp [] E0 t) := by
  obtain ⟨f, fd, G, m, kp, b⟩ := h
  exact pe_call G hr hg m kp b .nil pass0 ha hdb he hpl
def tHasK (sp : Sp) (tk : TA) : TE := fun σ H Q => tk σ H fun zs H1 => sp zs H1 Q E0
/-- all arguments by name, in their order -/
theorem pe_hasK0 (h : ∃ f fd, FnOk X.prog X.w X.K X.mg X.base CX0 k f fd ps sp ∧ X.mg x = some (.ref f) ∧ PySem.W.keepIn X.K (.ref f) = true ∧ KwAll X.K fd ps) (hr : Room k X.A) (hg : Gl X x) (hkw : PK X kws tk)
    (hall : (backToKw pos (keywordEach kws X.env)).all (·.1.isSome) = true := by rfl) (hks : (backToKw pos (keywordEach kws X.env)).filterMap (·.1) = ps := by rfl) (hdb : (x == ("__debug__" : Str)) = false := by decide)
    (hpl : ((backTo pos (starEach [] X.env)).any (·.1) || (backToKw
          pos (keywordEach kws X.env)).any (·.1.isNone)) = false := by rfl) :
    PE X (.Call (.Name x p) [] kws pos) (tHasK sp tk) := by
  obtain ⟨f, fd, G, m, kp, b⟩ := h
  constructor
  intro pins s σ H Q I hq
  apply wpAny_Call_Name_kw
  apply ld_glob I hg m _ hdb
  apply PySem.W.callWith_KW0 (h₀ := X.base) I.ok.mod.kin kp hall _ hpl
  refine thn (hkw.run pos pins s σ H _ I hq) ?_
  rintro ws s2 ⟨zs, H2, I2, rz, q2⟩
  refine ⟨I2.kIn, ?_⟩
  rw [hks]
  exact run_fnk (us := []) (vs := []) G hr b pass0 I2 .nil rz q2
end
end Ur

namespace Ur
open PySem L2
theorem same_new {H : Hp} {p : Addr} {o : HO} (h : H p = none) : Same H (upd H p o) := fun a u e => by
  rw [upd_ne (ne_of_none e h)]
  exact e
/-- a list that H does not know may grow -/
theorem same_own {H H' : Hp} {p : Addr} {o : HO} (e : Same H H') (h : H p = none) : Same H (upd H' p o) := fun a u q => by
  rw [upd_ne (ne_of_none q h)]
  exact e a u q
theorem same_sqT {K : PySem.W.Frag} {H H' : Hp} {a : Addr} {xs : List V} (e : Same H H') (h : SqT K H a xs) : SqT K H' a xs := by
  rcases h with (h
        | ⟨o, h⟩) | h
  · exact Or.inl (Or.inl (e _ _ h))
  · exact Or.inl (Or.inr ⟨o, e _ _ h⟩)
  · exact Or.inr h
theorem map_at {ns : List Int} {i : Nat} {x : V} (h : (ns.map V.int)[i]? = some x) : ∃ z, ns[i]? = some z ∧ x = V.int z := by
  rw [List.getElem?_map] at h
  cases e : ns[i]? with
  | none => rw [e]
        at h; cases h
  | some z => rw [e] at h; exact ⟨z, rfl, (Option.some.inj h).symm⟩
/-- what a comprehension without a test has made behind i turns -/
structure Made (H : Hp) (Pe : Nat → V → Prop) (D : Addr) (i : Nat) (H' : Hp) : Prop where
  new : H D = none
  same : Same H H'
  held : ∃ ys, H' D = some (.lst ys) ∧ ys.length = i ∧ ∀ j y, ys[j]? = some y → Pe j y
theorem Made.start {H : Hp} {Pe : Nat → V → Prop} {D : Addr} (h : H D = none) : Made H Pe D 0 (upd H D (.lst [])) :=
  ⟨h, same_new h, [], upd_same, rfl, fun j y e => by simp at e⟩
theorem Made.turn {H H3 : Hp} {Pe : Nat → V → Prop} {D : Addr} {i : Nat} {te : TE} {σ2 : L2.St} (m : Made H Pe D i H3) (hi : i < 100000)
    (he : ∀ Q' : VK, (∀ y H4, Pe i y → Same H3 H4 → Q' y H4) → te σ2 H3 Q') :
    te σ2 H3 fun y H4 => ∃ acc, H4 D = some (.lst acc) ∧ acc.length < sizeLine ∧ Made H Pe D (i + 1) (upd H4 D (.lst (acc ++ [y]))) := by
  obtain ⟨hn, sm, ys, h1, h2, h3⟩ := m
  refine he _ fun y H4 py s4 => ⟨ys, s4 _ _ h1, Nat.lt_of_lt_of_le (by omega : ys.length < 100000) (by decide), hn, same_own (sm.trans s4) hn, ys ++ [y], upd_same, by simp [h2], fun j z e => ?_⟩
  by_cases hj : j < ys.length
  · rw [List.getElem?_append_left hj] at e
    exact h3 j z e
  · rw [List.getElem?_append_right (by omega)] at e
    have : j = i := by
      have hl := (List.getElem?_eq_some_iff.mp e).1
      simp at hl
      omega
    subst this
    rw [← h2, Nat.sub_self] at e
    obtain rfl := Option.some.inj e
    exact py
section
variable {K : PySem.W.Frag} {a : Addr} {xs : List V} {te : TE} {vs : List Nat} {j : Nat} {σ : L2.St} {H : Hp} {Q : VK}
/-- [elt for x in t], t a tuple -/
theorem lcT {tl : TE} (Pe : Nat → V → Prop) (hx : ∀ R : VK, R (.ref a) H → tl σ H R) (hs : SqT K H a xs) (hz : xs.length ≤ 100000) (hw : ∀ x, wipe ((wipe σ vs).set j (some x)) vs = wipe σ vs)
    (he : ∀ i x H3, xs[i]? = some x → Same H H3 → ∀ Q' : VK, (∀ y H4, Pe i y → Same H3 H4 → Q' y H4) → te ((wipe σ vs).set j (some x)) H3 Q')
    (hq : ∀ D ys H', H D = none → Same H H' → H' D = some (.lst ys) → ys.length = xs.length → (∀ i y, ys[i]? = some y → Pe i y) → Q (.ref D) H') : tLc (iTup K tl) (gName j) tYes te vs σ H Q := by
  refine hx _ ⟨a, rfl, ⟨xs, hs⟩, fun D hD => ?_⟩
  refine lc_tup (xs := xs) (Made H Pe D) (.start hD) (fun i H' _ m => same_sqT m.same hs) (fun i x H' hi m => ⟨hw x, ?_⟩) (fun H' ⟨hn, sm, ys, h1, h2, h3⟩ => hq D ys H' hn sm h1 h2 h3)
  have hl := (List.getElem?_eq_some_iff.mp hi).1
  unfold tYes
  dsimp only
  rw [if_pos rfl]
  exact (m.turn (by omega) (he i x H' hi m.same))
/-- [elt for x in l], l a list -/
theorem lcL {tl : TE} (Pe : Nat → V → Prop) (hx : ∀ R : VK, R (.ref a) H → tl σ H R) (hs : SqL K H a xs) (hz : xs.length ≤ 100000) (hw : ∀ x, wipe ((wipe σ vs).set j (some x)) vs = wipe σ vs)
    (he : ∀ i x H3, xs[i]? = some x → Same H H3 → ∀ Q' : VK, (∀ y H4, Pe i y → Same H3 H4 → Q' y H4) → te ((wipe σ vs).set j (some x)) H3 Q')
    (hq : ∀ D ys H', H D = none → Same H H' → H' D = some (.lst ys) → ys.length = xs.length → (∀ i y, ys[i]? = some y → Pe i y) → Q (.ref D) H') : tLc (iList K tl) (gName j) tYes te vs σ H Q := by
  refine hx _ ⟨a, rfl, ⟨xs, hs⟩, fun D hD => ?_⟩
  refine lc_list (xs := xs) (Made H Pe D) (.start hD) (fun i H' _ m => m.same.seq hs) (fun i x H' hi m => ⟨hw x, ?_⟩) (fun H' ⟨hn, sm, ys, h1, h2, h3⟩ => hq D ys H' hn sm h1 h2 h3)
  have hl := (List.getElem?_eq_some_iff.mp hi).1
  unfold tYes
  dsimp only
  rw [if_pos rfl]
  exact (m.turn (by omega) (he i x H' hi m.same))
/-- [elt for x in range(n)] -/
theorem lcR {ta : TA} {n : Int} {H0 : Hp} (Pe : Nat → V → Prop) (hx : ∀ R : List V → Hp → Prop, (∀ H1, Same H0 H1 → R [.int n] H1) → ta σ H0 R) (h0 : 0 ≤ n) (hz : n ≤ 100000) (hw : ∀ x, wipe ((wipe σ vs).set j (some x)) vs = wipe σ vs)
    (he : ∀ (i : Nat) H3, i < n → Same H0 H3 → ∀ Q' : VK, (∀ y H4, Pe i y → Same H3 H4 → Q' y H4) → te ((wipe σ vs).set j (some (.int (0 + (i : Int))))) H3 Q')
    (hq : ∀ D ys H', H0 D = none → Same H0 H' → H' D = some (.lst ys) → (ys.length : Int) = n → (∀ i y, ys[i]? = some y → Pe i y) → Q (.ref D) H') : tLc (iRng1 ta) (gName j) tYes te vs σ H0 Q := by
  refine hx _ fun H1 s1 => ⟨n, rfl, by omega, by omega, fun D hD => ?_⟩
  refine lc_range (lo := 0) (n := n.toNat) (Made H1 Pe D) (.start hD) (fun i H' hi m => ⟨hw _, ?_⟩) (fun H' ⟨hn, sm, ys, h1, h2, h3⟩ => hq D ys H' (s1.free hn) (s1.trans sm) h1 (by omega) h3)
  unfold tYes
  dsimp only
  rw [if_pos rfl]
  exact (m.turn (by omega) (he i H' (by omega) (s1.trans m.same)))
end
end Ur
namespace Ur
open PySem L2
/-- a statement and the rest, with a word of one's own between them -/
def tMid (t u : TS) : TS := fun D σ H => ∃ M : L2.St → Hp → Prop, t { D with nx := M } σ H ∧ ∀ σ' H', M σ' H' → u D σ' H'
theorem pss_mid {X : Cx} {st : Stmt} {rest : List Stmt} {t u : TS} (h1 : PS X st t) (h2 : PSs X rest u) : PSs X (st :: rest) (tMid t u) := by
  constructor
  intro pins s σ H D I hw
  obtain ⟨M, hm, hu⟩ := hw
  apply wpAny_execs_cons
  refine thn (h1.run pins s σ H { D with nx := M } I hm) ?_
  intro f s1 q
  match f, q with
  | .next, ⟨σ', H', I', q⟩ => exact h2.run pins s1 σ' H' D I' (hu σ' H' q)
  | .ret v, q => exact q
  | .brk, q => exact q
  | .cont, q => exact q
theorem seq_of {t u : TS} {D : Ends} {σ : L2.St} {H : Hp} (h : t { D with nx := u D } σ H) : tSeq t u D σ H := h
theorem asg_of {te : TE} {g : TG} {D : Ends} {σ : L2.St} {H : Hp} (h : te σ H fun x H1 => g x σ H1 D.nx) : tAsg te g D σ H := h
theorem ixN_nat {n j : Nat} (h : j < n) : ixN n (j : Int) = some j := by
  unfold ixN
  rw [if_pos (by omega),
        if_pos (by omega)]
  rfl
end Ur

namespace Ur
open PySem L2
/-! ### values of any kind -/
inductive Kd where
  | non | bool | int | str | lst | tup | dic
  deriving DecidableEq
def Kd.nm : Kd → String
  | .non => "NoneType" | .bool => "bool" | .int => "int" | .str => "str" | .lst => "list" | .tup => "tuple" | .dic => "dict"
theorem kd_int (k : Kd) : kitB k.nm "int" = some (k == .int || k == .bool) := by cases k <;> decide +kernel
theorem kd_bool (k : Kd) : kitB k.nm "bool" = some (k == .bool) := by cases k <;> decide +kernel
theorem kd_tup (k : Kd) : kitB k.nm "tuple" = some (k == .tup) := by cases k <;> decide +kernel
def OfKd (K : PySem.W.Frag) (H : Hp) (x : V) (k : Kd) : Prop := TyX K H x (.type k.nm)
def wh : V → Bool
  | .int _ => true
  | _ => false
theorem nm_inj {k l : Kd} (h : k.nm = l.nm) : k = l := by
  cases k <;> cases l <;> first | rfl | (exact absurd h (by decide))
theorem ofKd_wh {K : PySem.W.Frag} {H : Hp} {x : V} {k : Kd} (h : OfKd K H x k) : (k == .int) = wh x := by
  have no : ∀ l : Kd, l ≠ .int → Value.type k.nm = Value.type l.nm → (k == Kd.int) = false := fun l hl e => by
    have : k = l := nm_inj (by injection e)
    subst this
    exact beq_eq_false_iff_ne.mpr hl
  have yes : Value.type k.nm = Value.type Kd.int.nm → (k == Kd.int) = true := fun e => by
    have : k = .int := nm_inj (by injection e)
    subst this
    rfl
  unfold OfKd at h
  generalize ht : Value.type k.nm = t at h
  cases h with
  | base b =>
    cases b with
    | non => exact no .non (by decide) ht
    | bl y => exact no .bool (by decide) ht
    | int i => exact yes ht
    | str y => exact no .str (by decide) ht
    | flt y =>
      have e : k.nm = "float" := by injection ht
      cases k <;> exact absurd e (by decide)
    | lst e => exact no .lst (by decide) ht
    | frz e => exact no .lst (by decide) ht
    | tup e => exact no .tup (by decide) ht
    | dK e => exact no .dic (by decide) ht
    | dT e => exact no .dic (by decide) ht
    | ins e _ _ _ _ _ => cases ht
  | byt y =>
    have e : k.nm = "bytes" := by injection ht
    cases k <;> exact absurd e (by decide)
  | set e =>
    have e : k.nm = "set" := by injection ht
    cases k <;> exact absurd e (by decide)
  | kList e c => exact no .lst (by decide) ht
  | kTuple e c => exact no .tup (by decide) ht
  | kDict e c => exact no .dic (by decide) ht
  | fTuple e => exact no .tup (by decide) ht
  | fDict e => exact no .dic (by decide) ht
theorem ofKd_same {K : PySem.W.Frag} {H H' : Hp} {x : V} {k : Kd} (s : Same H H') (h : OfKd K H x k) : OfKd K H' x k := by
  unfold OfKd at h ⊢
  generalize Value.type k.nm = t at h ⊢
  cases h with
  | base b =>
    refine .base ?_
    cases b with
    | non => exact .non
    | bl y => exact .bl y
    | int i => exact .int i
    | str y => exact .str y
    | flt y => exact .flt y
    | lst e => exact .lst (s _ _ e)
    | frz e => exact .frz (s _ _ e)
    | tup e => exact .tup (s _ _ e)
    | dK e => exact .dK (s _ _ e)
    | dT e => exact .dT (s _ _ e)
    | ins e a b c d f => exact .ins (s _ _ e) a b c d f
  | byt y => exact .byt y
  | set e => exact .set (s _ _ e)
  | kList e c => exact .kList e c
  | kTuple e c => exact .kTuple e c
  | kDict e c => exact .kDict e c
  | fTuple e => exact .fTuple (s _ _ e)
  | fDict e => exact .fDict (s _ _ e)
theorem tup_kd {K : PySem.W.Frag} {H : Hp} {a : Addr} {xs : List V} (h : SqT K H a xs) : OfKd K H (.ref a) .tup := by
  rcases h with (h | ⟨o, h⟩) | ⟨o, its, n, h, c, _⟩
  · exact .base (.tup h)
  · exact .fTuple h
  · exact .kTuple h c
theorem all_wh : ∀ {xs : List V}, xs.all wh = true → ∃ ns : List Int, xs = ns.map V.int
  | [], _ => ⟨[], rfl⟩
  | x :: r, h => by
    rw [List.all_cons,
          Bool.and_eq_true] at h
    obtain ⟨ns, rfl⟩ := all_wh h.2
    cases x with
    | int i => exact ⟨i :: ns, rfl⟩
    | _ => exact absurd h.1 (by simp [wh])
theorem ints_wh (ns : List Int) : (ns.map V.int).all wh = true := by
  rw [List.all_map]
  exact List.all_eq_true.mpr
        fun _ _ => rfl
mutual
theorem dp_same {K : PySem.W.Frag} {H H' : Hp} (s : Same H H') : ∀ {v : V} {d : PyData}, Dp K H v d → Dp K H' v d
  | _, _, .non => .non
  | _, _, .bl b => .bl b
  | _, _, .int i => .int i
  | _, _, .str x => .str x
  | _, _, .lst h1 h2 => .lst (s.seq h1) (dpAll_same s h2)
  | _, _, .tup h1 h2 => .tup (same_sqT s h1) (dpAll_same s h2)
theorem dpAll_same {K : PySem.W.Frag} {H H' : Hp} (s : Same H H') : ∀ {vs : List V} {ds : List PyData}, DpAll K H vs ds → DpAll K H' vs ds
  | _, _, .nil => .nil
  | _, _, .cons h1 h2 => .cons (dp_same s h1) (dpAll_same s h2)
end
/-- an item of such a tuple -/
structure It (K : PySem.W.Frag) (H : Hp) (y : V) : Prop where
  kd : ∃ l, OfKd K H y l
  dat : ∃ d, Dp K H y d ∧ d.canLay0 = true ∧ d.depth ≤ 8
theorem It.same {K : PySem.W.Frag} {H H' : Hp} {y : V} (s : Same H H') (h : It K H y) : It K H' y :=
  ⟨let ⟨l, a⟩ := h.kd; ⟨l, ofKd_same s a⟩, let ⟨d, a, b⟩ := h.dat; ⟨d, dp_same s a, b⟩⟩
/-- a value of any kind, seen as an argument: its kind, and its items if it is a tuple -/
structure Arg (K : PySem.W.Frag) (H : Hp) (x : V) (k : Kd) (xs : List V) : Prop where
  ty : OfKd K H x k
  its : k = .tup → ∃ a, x = .ref a ∧ SqT K H a xs ∧ xs.length ≤ 1000 ∧ (∀ y ∈ xs, It K H y) ∧ ∀ i, V.int i ∈ xs → i.natAbs < 2 ^ 9000
theorem Arg.same {K : PySem.W.Frag} {H H' : Hp} {x : V} {k : Kd} {xs : List V} (s : Same H H') (A : Arg K H x k xs) : Arg K H' x k xs :=
  ⟨ofKd_same s A.ty, fun e => let ⟨a, e1, e2, e3, e4, e5⟩ := A.its e; ⟨a, e1, same_sqT s e2, e3, fun y hy => (e4 y hy).same s, e5⟩⟩
/-! ### tuples of ints as data -/
theorem dpAll_ints {K : PySem.W.Frag} {H : Hp} : ∀ ns : List Int, DpAll K H (ns.map V.int) (ns.map PyData.int)
  | [] => .nil
  | n :: r => .cons (.int n) (dpAll_ints r)
theorem dp_ints {K : PySem.W.Frag} {H : Hp} {a : Addr} {ns : List Int} (h : SqT K H a (ns.map V.int)) : Dp K H (.ref a) (.tuple (ns.map PyData.int)) := .tup h (dpAll_ints ns)
theorem lay_ints : ∀ ns : List Int, PyData.canLayAll0 (ns.map PyData.int) = true
  | [] => rfl
  | _ :: r => by
    show (true && PyData.canLayAll0 (r.map PyData.int)) = true
    rw [lay_ints r]
    rfl
theorem depth_ints : ∀ ns : List Int, PyData.depthAll (ns.map PyData.int) = 0
  | [] => rfl
  | _ :: r => by
    show max 0 (PyData.depthAll (r.map PyData.int)) = 0
    rw [depth_ints r]
    rfl
theorem shaped_ints (ns : List Int) : SeqAt.shaped (.tuple (ns.map PyData.int)) = true := by
  unfold SeqAt.shaped
  show (PyData.canLayAll0 _ && decide (PyData.depthAll _ + 1 ≤ 64)) = true
  rw [lay_ints, depth_ints]
  rfl
theorem eqvAll_ints : ∀ a b : List Int, PyData.eqvAll (a.map PyData.int) (b.map PyData.int) = decide (a = b)
  | [], [] => rfl
  | [], _ :: _ =>
        by simp [PyData.eqvAll]
  | _ :: _, [] =>
        by simp [PyData.eqvAll]
  | x :: a, y :: b => by
    show ((x == y) && PyData.eqvAll (a.map PyData.int) (b.map PyData.int)) = _
    rw [eqvAll_ints a b]
    by_cases e : x = y
    · subst e; simp
    · simp [e]
theorem eqv_ints (a b : List Int) : PyData.eqv (.tuple (a.map PyData.int)) (.tuple (b.map PyData.int)) = decide (a = b) := eqvAll_ints a b
/-- a list of such items as data -/
theorem its_dat {K : PySem.W.Frag} {H : Hp} : ∀ {ys : List V}, (∀ y ∈ ys, It K H y) → ∃ ds, DpAll K H ys ds ∧ PyData.canLayAll0 ds = true ∧ PyData.depthAll ds ≤ 8 ∧ ds.length = ys.length
  | [], _ => ⟨[], .nil, rfl, by decide, rfl⟩
  | y :: r, h => by
    obtain ⟨d, h1, h2, h3⟩ := (h y List.mem_cons_self).dat
    obtain ⟨ds, g1, g2, g3, g4⟩ := its_dat (ys := r) fun z hz => h z (List.mem_cons_of_mem _ hz)
    refine ⟨d :: ds, .cons h1 g1, ?_, ?_, by simp [g4]⟩
    · show (PyData.canLay0 d && PyData.canLayAll0 ds) = true
      rw [h2, g2]
      rfl
    · show max (PyData.depth d) (PyData.depthAll ds) ≤ 8
      omega
/-- a comprehension with a test that keeps items as they are -/
structure Kept (H : Hp) (xs : List V) (f : V → Bool) (D : Addr) (i : Nat) (H' : Hp) : Prop where
  new : H D = none
  same : Same H H'
  held : H' D = some (.lst ((xs.take i).filter f))
theorem lcTf {K : PySem.W.Frag} {a : Addr} {xs : List V} {tl te : TE} {tt : TT} {vs : List Nat} {j : Nat} {σ : L2.St} {H : Hp} {Q : VK} (f : V → Bool) (hx : ∀ R : VK, R (.ref a) H → tl σ H R) (hs : SqT K H a xs) (hz : xs.length ≤ 100000)
    (hw : ∀ x, wipe ((wipe σ vs).set j (some x)) vs = wipe σ vs)
    (ht : ∀ (i : Nat) (x : V) (H3 : Hp), xs[i]? = some x → Same H H3 → ∀ Q' : Bool → Hp → Prop, (∀ H4, Same H3 H4 → Q' (f x) H4) → tt ((wipe σ vs).set j (some x)) H3 Q')
    (he : ∀ (i : Nat) (x : V) (H3 : Hp), xs[i]? = some x → Same H H3 → ∀ Q' : VK, Q' x H3 → te ((wipe σ vs).set j (some x)) H3 Q')
    (hq : ∀ D H', H D = none → Same H H' → H' D = some (.lst (xs.filter f)) → Q (.ref D) H') : tLc (iTup K tl) (gName j) tt te vs σ H Q := by
  refine hx _ ⟨a, rfl, ⟨xs, hs⟩, fun D hD => ?_⟩
  refine lc_tup (xs := xs) (Kept H xs f D) ⟨hD, same_new hD, upd_same⟩ (fun i H' _ m => same_sqT m.same hs) (fun i x H' hi m => ⟨hw x, ?_⟩) (fun H' m => hq D H' m.new m.same (by have := m.held; rwa [List.take_length] at this))
  have hl := (List.getElem?_eq_some_iff.mp hi).1
  have e1 : xs.take (i + 1) = xs.take i ++ [x] := by
    obtain ⟨_, rfl⟩ := List.getElem?_eq_some_iff.mp hi
    exact List.take_succ_eq_append_getElem hl
  refine ht i x H' hi m.same _ fun H4 s4 => ?_
  cases hf : f x with
  | true =>
    rw [if_pos rfl]
    refine he i x H4 hi (m.same.trans s4) _ ⟨_, s4 _ _ m.held, ?_, m.new, same_own (m.same.trans s4) m.new, ?_⟩
    · have := List.length_filter_le f (xs.take i)
      rw [List.length_take] at this
      exact Nat.lt_of_lt_of_le (by omega : _ < 100001) (by decide)
    · rw [upd_same, e1, List.filter_append, List.filter_cons, if_pos hf]
      rfl
  | false =>
    rw [if_neg
          Bool.false_ne_true]
    refine ⟨m.new, m.same.trans s4, ?_⟩
    rw [e1, List.filter_append, List.filter_cons, if_neg (by rw [hf]; decide)]
    show _ = some (HO.lst (_ ++ []))
    rw [List.append_nil]
    exact s4 _ _ m.held
end Ur
namespace Ur
open PySem L2
section
variable {te : TE} {vs : List Nat} {j : Nat} {σ : L2.St} {Q : VK}
/-- [elt for x in range(n)], n drawn -/
theorem lcRn {ta : TA} {H0 : Hp} (Pn : Int → Prop) (Pe : Int → Nat → V → Prop) (hx : ∀ R : List V → Hp → Prop, (∀ n H1, Pn n → Same H0 H1 → R [.int n] H1) → ta σ H0 R) (hb : ∀ n, Pn n → 0 ≤ n ∧ n ≤ 100000)
    (hw : ∀ x, wipe ((wipe σ vs).set j (some x)) vs = wipe σ vs)
    (he : ∀ (n : Int) (i : Nat) (H3 : Hp), Pn n → i < n → Same H0 H3 → ∀ Q' : VK, (∀ y H4, Pe n i y → Same H3 H4 → Q' y H4) → te ((wipe σ vs).set j (some (.int (0 + (i : Int))))) H3 Q')
    (hq : ∀ n D ys H', Pn n → H0 D = none → Same H0 H' → H' D = some (.lst ys) → (ys.length : Int) = n → (∀ i y, ys[i]? = some y → Pe n i y) → Q (.ref D) H') : tLc (iRng1 ta) (gName j) tYes te vs σ H0 Q := by
  refine hx _ fun n H1 pn s1 => ⟨n, rfl, by have := hb n pn; omega, by have := hb n pn; omega, fun D hD => ?_⟩
  have hn := hb n pn
  refine lc_range (lo := 0) (n := n.toNat) (Made H1 (Pe n) D) (.start hD) (fun i H' hi m => ⟨hw _, ?_⟩) (fun H' ⟨hn, sm, ys, h1, h2, h3⟩ => hq n D ys H' pn (s1.free hn) (s1.trans sm) h1 (by omega) h3)
  unfold tYes
  dsimp only
  rw [if_pos rfl]
  exact m.turn (by omega) (he n i H' pn (by omega) (s1.trans m.same))
end
end Ur
namespace Ur
open PySem L2
/-- the def of this name keeps this promise where no repr runs around it -/
def HasG (P : Program) (w : World) (K : PySem.W.Frag) (mg : Str → Option Value) (base : Heap) (x : Str) (ps : List Str) (k : Nat) (sp : Sp) : Prop :=
  ∃ f fd, FnG P w K mg base CX0 k f fd ps sp ∧ mg x = some (.ref f) ∧ PySem.W.keepIn K (.ref f) = true ∧ Binds K fd ps []
def HasK (P : Program) (w : World) (K : PySem.W.Frag) (mg : Str → Option Value) (base : Heap) (x : Str) (ps : List Str) (k : Nat) (sp : Sp) : Prop :=
  ∃ f fd, FnOk P w K mg base CX0 k f fd ps sp ∧ mg x = some (.ref f) ∧ PySem.W.keepIn K (.ref f) = true ∧ KwAll K fd ps
theorem pe_hasG {X : Cx} {x : Str} {p pos : Pos} {e : Expr} {es : List Expr} {t : TA} {ps : List Str} {k : Nat} {sp : Sp} (h : HasG X.prog X.w X.K X.mg X.base x ps k sp) (hgu : X.A.guards = some []) (hr : Room k X.A) (hg : Gl X x)
    (ha : PA X (e :: es) t) (hdb : (x == ("__debug__" : Str)) = false := by decide) (he : starEach (e :: es) X.env = (false, eval e X.env) :: starEach es X.env := by rfl)
    (hpl : (backTo pos (starEach es X.env)).any (·.1) = false := by rfl) : PE X (.Call (.Name x p) (e :: es) [] pos) (tCall sp [] E0 t) := by
  obtain ⟨f, fd, G, m, kp, b⟩ := h
  exact callG G hgu hr hg m kp b pass0 ha hdb he hpl
def FndK (K : PySem.W.Frag) (mg : Str → Option Value) (x : Str) (st : Stmt) (ps : List Str) : Prop :=
  ∃ f fd, Fun K x x st f fd ∧ mg x = some (.ref f) ∧ Binds K fd ps [] ∧ KwAll K fd ps
section
variable {P : Program} {w : World} {K : PySem.W.Frag} {mg : Str → Option Value} {base : Heap} {x : Str} {st : Stmt} {ps : List Str} {k : Nat} {sp : Sp}
theorem Fnd.has (D : Fnd K mg x st ps) (h : ∀ {f fd}, Fun K x x st f fd → FnOk P w K mg base CX0 k f fd ps sp) : Has P w K mg base x ps k sp := by
  obtain ⟨f, fd, F, m, b⟩ := D
  exact ⟨f, fd, h F, m, F.kp, b⟩
theorem Fnd.hasG (D : Fnd K mg x st ps) (h : ∀ {f fd}, Fun K x x st f fd → FnG P w K mg base CX0 k f fd ps sp) : HasG P w K mg base x ps k sp := by
  obtain ⟨f, fd, F, m, b⟩ := D
  exact ⟨f, fd, h F, m, F.kp, b⟩
theorem FndK.fnd (D : FndK K mg x st ps) : Fnd K mg x st ps := by
  obtain ⟨f, fd, F, m, b, _⟩ := D
  exact ⟨f, fd, F, m, b⟩
theorem FndK.hasK (D : FndK K mg x st ps) (h : ∀ {f fd}, Fun K x x st f fd → FnOk P w K mg base CX0 k f fd ps sp) : HasK P w K mg base x ps k sp := by
  obtain ⟨f, fd, F, m, _, b⟩ := D
  exact ⟨f, fd, h F, m, F.kp, b⟩
end
section
variable {K : PySem.W.Frag} {h : Heap} {mg : Str → Option Value} {x : Str} {st : Stmt} {ps : List Str} {f : Addr} {oc kV dc pm cd ct : Value} {od an : Option Addr} {sl : Array (Option Value)}
theorem fnd_mk (X : K.In h) (G : h.Ns mainGlobals mg) (a : PySem.W.nsIn K mainGlobals x = some (some (.ref f))) (l : K.lookup f = some ⟨oc, od, .func (PySem.W.fnOf x x (defArgs st) (defBody st) (defScope st) .none kV dc pm an cd ct), sl⟩)
    (c : PySem.W.codeIn K cd x = true) (k : PySem.W.keepIn K (.ref f) = true)
    (hb : ∀ (kV doc pm : Value) (an : Option Addr) (cdv ct : Value) (us : List Value), us.length = ps.length → bindArgs (PySem.W.fnOf x x (defArgs st) (defBody st) (defScope st) .none kV doc pm an cdv ct) ⟨us, []⟩ = pure (ps.zip us)) : Fnd K mg x st ps :=
  have F := fun_mk l c k
  ⟨f, _, F, PySem.W.mg_of X G a, F.binds hb⟩
theorem fndK_mk (X : K.In h) (G : h.Ns mainGlobals mg) (a : PySem.W.nsIn K mainGlobals x = some (some (.ref f))) (l : K.lookup f = some ⟨oc, od, .func (PySem.W.fnOf x x (defArgs st) (defBody st) (defScope st) .none kV dc pm an cd ct), sl⟩)
    (c : PySem.W.codeIn K cd x = true) (k : PySem.W.keepIn K (.ref f) = true)
    (hb : ∀ (kV doc pm : Value) (an : Option Addr) (cdv ct : Value) (us : List Value), us.length = ps.length → bindArgs (PySem.W.fnOf x x (defArgs st) (defBody st) (defScope st) .none kV doc pm an cdv ct) ⟨us, []⟩ = pure (ps.zip us))
    (hk : ∀ (kV doc pm : Value) (an : Option Addr) (cdv ct : Value) (us ws : List Value), (us ++ ws).length = ps.length → bindArgs (PySem.W.fnOf x x (defArgs st) (defBody st) (defScope st) .none kV doc pm an cdv ct) ⟨us, ps.zip ws⟩ = pure (ps.zip (us ++ ws))) : FndK K mg x st ps :=
  have F := fun_mk l c k
  ⟨f, _, F, PySem.W.mg_of X G a, F.binds hb, ⟨fun _ us ws _ hl => .of_eq (hk _ _ _ _ _ _ us ws hl), fun a b => a.append b⟩⟩
end
end Ur
namespace Ur
theorem one_split {α : Type} {us ws : List α} (h : (us ++ ws).length = 1) : (∃ v, us = [] ∧ ws = [v]) ∨ ∃ v, us = [v] ∧ ws = [] := by
  match us, ws, h with
  | [], [v], _ => exact Or.inl ⟨v, rfl, rfl⟩
  | [v], [], _ => exact Or.inr ⟨v, rfl, rfl⟩
  | [], _ :: _ :: _, h => exact absurd h (by simp)
  | [_], _ :: _, h => exact absurd h (by simp)
  | _ :: _ :: _, _, h => exact absurd h (by simp)
end Ur

namespace K3
open PySem L2 Ur
def top (i : Nat) : Stmt := PySem.Challenge.pw_hullrests_k03_points_reckoned_with.main.body.getD i (.Pass ⟨0, 0, 0, 0⟩)
abbrev sUrn : Stmt := top 38
abbrev sPull : Stmt := top 39
abbrev sAny : Stmt := top 40
abbrev sNum : Stmt := top 41
abbrev sLaps : Stmt := top 42
/-- what the top leaves of the built-in names -/
structure Bl (mg : Str → Option Value) : Prop where
  int : mg "int" = none
  abs : mg "abs" = none
  len : mg "len" = none
  max : mg "max" = none
  min : mg "min" = none
  divmod : mg "divmod" = none
  range : mg "range" = none
  tuple : mg "tuple" = none
  isinstance : mg "isinstance" = none
  bool : mg "bool" = none
  all : mg "all" = none
  repr : mg "repr" = none
section
variable {P : Program} {w : World} {K :
      PySem.W.Frag} {mg : Str → Option Value} {base : Heap}
def spPull : Sp := fun vs H Q _ => ∃ (u : Addr) (m : Int), vs = [.ref u, .int m] ∧ H u = some (UrnO u) ∧ 0 < m ∧ m < 1073741824 ∧ ∀ (r : Int) (H' : Hp), 0 ≤ r → r < m → Same H H' → Q (.int r) H'
abbrev nPull : List Str := ["_law_urn_here", "_law_many", "_law_digit"]
theorem scPull : FnScope nPull ["_law_urn_here", "_law_many"] (defScope sPull) := ⟨rfl, rfl, rfl, by decide +kernel, rfl, by decide +kernel, by decide +kernel⟩
theorem ok_pull {f : Addr} {fd : FuncData} (F : Fun K "_law_pull" "_law_pull" sPull f fd) (T : Bl mg) : FnOk P w K mg base CX0 1 f fd ["_law_urn_here", "_law_many"] spPull := by
  refine F.ok scPull (fun vs H Q E h => ?_) (fun cdv A outer s H vs Q E hr h => ?_)
  · obtain ⟨u, m, rfl, _⟩ := h
    rfl
  · obtain ⟨u, m, rfl, hu, m0, m1, k⟩ := h
    refine ⟨_, pss_urn (pss_cons (ps_if (pt_cmpR op_gt (pe_ix ix_list (pv 0) pe_int (fun _ _ => rfl)) pe_int (nomark _))
        (pss_cons (ps_asg (pe_callB call_divmod (by rfl) T.divmod PyProof.Rows.boot_divmod (pa_cons (pe_ix ix_list (pv 0) pe_int (fun _ _ => rfl)) (pa_cons (pv 1) pa_nil)))
            (pg_tup rfl (pgs_cons (pg_sub (pv 0) pe_int set_list (fun _ => rfl)) (pgs_cons (pg_name (i := 2) scPull.nd rfl (Or.inl rfl)) pgs_nil))))
          (pss_one (ps_ret (pv 2)))) pss_nil)
      (pss_cons (ps_asg (pe_op op_mod (pe_callTy call_int1 (by rfl) T.int PyProof.Rows.boot_int (pa_cons (pe_op op_add (pe_op op_mul (pe_ix ix_list (pv 0) pe_int (fun _ _ => rfl)) pe_int) pe_int) pa_nil)) pe_int) (pg_sub (pv 0) pe_int set_list (fun _ => rfl)))
      (pss_cons (ps_asg (pe_op op_mod (pe_callTy call_int1 (by rfl) T.int PyProof.Rows.boot_int (pa_cons (pe_op op_add (pe_op op_mul (pe_ix ix_list (pv 0) pe_int (fun _ _ => rfl)) pe_int) (pe_ix ix_list (pv 0) pe_int (fun _ _ => rfl))) pa_nil)) pe_int) (pg_sub (pv 0) pe_int set_list (fun _ => rfl)))
      (pss_one (ps_ret (pe_op op_mod (pe_callTy call_int1 (by rfl) T.int PyProof.Rows.boot_int (pa_cons (pe_op op_fdiv (pe_ix ix_list (pv 0) pe_int (fun _ _ => rfl)) pe_int) pa_nil)) (pv 1))))))), ?_⟩
    refine ⟨u, hu, fun a b c B => ?_⟩
    have hq : ∀ (H' : Hp) (r : Int) (a' b' c' : Int), 0 ≤ r → r < m → Bd a' b' c' → (∀ x o, H x = some o → x ≠ u → H' x = some o) → H' u = some (.lst (nums a' b' c')) → Shut u (Q (.int r)) H' := by
      intro H' r a' b' c' r0 r1 B' keep at'
      refine ⟨a', b', c', B', at', k r _ r0 r1 ?_⟩
      intro x o e
      by_cases z : x = u
      · subst z; rw [hu] at e; cases e; exact upd_same
      · rw [upd_ne z]; exact keep x o e z
    have keep0 : ∀ xs x o, H x = some o → x ≠ u → (upd H u (.lst xs)) x = some o := fun xs x o e z => by rw [upd_ne z]; exact e
    refine ⟨_, rfl, u, nums a b c, 0, _, rfl, rfl, SqL.of upd_same, rfl, _, _, rfl, rfl, _, rfl, ?_⟩
    refine ite2 (fun _
          => ?_) (fun _ => ?_)
    · refine ⟨_, rfl, u, nums a b c, 0, _, rfl, rfl, SqL.of upd_same, rfl, _, rfl, a, m, rfl, ⟨m0, m1⟩, fun p hp => ?_⟩
      have npu : p ≠ u := fun z => by rw [z, upd_same] at hp; cases hp
      have npu2 : u ≠ p := fun z => npu z.symm
      refine ⟨p, _, rfl, SqT.of upd_same, rfl, _, _, rfl, ?_⟩
      refine ⟨_, rfl, u, nums a b c, 0, 0, rfl, rfl, by rw [upd_ne npu2, upd_same], rfl, ?_⟩
      refine ⟨_, _, rfl, rfl, ?_⟩
      refine ⟨_, rfl, ?_⟩
      refine hq _ (a % m) (a / m) b c (Int.emod_nonneg _ (by omega)) (Int.emod_lt_of_pos _ m0) ⟨Int.ediv_nonneg B.a0 (by omega), B.b0, B.b1, B.c0, B.c1⟩ (fun x o e z => ?_) upd_same
      rw [upd_ne z, upd_ne (ne_of_none (upd_ne z ▸ e : (upd H u _) x = some o) hp), upd_ne z]
      exact e
    · have b2 := B.b1
      have b3 := B.b0
      have c2 := B.c1
      have c3 := B.c0
      refine ⟨_, rfl, u, nums a b c, 1, _, rfl, rfl, SqL.of upd_same, rfl, _, _, rfl, rfl, Or.inl ⟨by omega, by omega⟩, _, _, rfl, rfl, Or.inl ⟨_, rfl, _, _, rfl, rfl, (by show (0 : Int) < 2147483629; decide), ?_⟩⟩
      refine ⟨_, rfl, u, nums a b c, 1, 1, rfl, rfl, upd_same, rfl, ?_⟩
      rw [upd_upd]
      refine ⟨_, rfl, u, nums a ((b * 37199 + 1201) % 2147483629) c, 2, _, rfl, rfl, SqL.of upd_same, rfl, _, _, rfl, rfl, Or.inl ⟨by omega, by omega⟩, _, rfl, u, nums a ((b * 37199 + 1201) % 2147483629) c, 1, _, rfl, rfl, SqL.of upd_same, rfl, _, _, rfl, rfl, Or.inl ⟨_, rfl, _, _, rfl, rfl, (by show (0 : Int) < 2147483587; decide), ?_⟩⟩
      refine ⟨_, rfl, u, nums a ((b * 37199 + 1201) % 2147483629) c, 2, 2, rfl, rfl, upd_same, rfl, ?_⟩
      rw [upd_upd]
      obtain ⟨b', hb'⟩ : ∃ b', b' = (b * 37199 + 1201) % 2147483629 := ⟨_, rfl⟩
      obtain ⟨c', hc'⟩ : ∃ c', c' = (c * 29443 + b') % 2147483587 := ⟨_, rfl⟩
      have b4 : 0 ≤ b' ∧ b' < 2147483629 := ⟨hb' ▸ Int.emod_nonneg _ (by decide), hb' ▸ Int.emod_lt_of_pos _ (by decide)⟩
      have c4 : 0 ≤ c' ∧ c' < 2147483587 := ⟨hc' ▸ Int.emod_nonneg _ (by decide), hc' ▸ Int.emod_lt_of_pos _ (by decide)⟩
      generalize hH : upd H u _ = H2
      have hu2 : H2 u = some (.lst (nums a b' c')) := by
        rw [← hH, upd_same, hc', hb']
        rfl
      have kp2 : ∀ x o, H x = some o → x ≠ u → H2 x = some o := fun x o e z => by
        rw [← hH, upd_ne z]
        exact e
      refine ⟨_, rfl, u, nums a b' c', 2, _, rfl, rfl, SqL.of hu2, rfl, _, _, rfl, rfl, ⟨by decide, by decide⟩, Or.inl ⟨_, rfl, _, rfl, _, _, rfl, rfl, m0, ?_⟩⟩
      exact hq _ _ a b' c' (Int.emod_nonneg _ (by omega)) (Int.emod_lt_of_pos _ m0) ⟨B.a0, b4.1, by omega, c4.1, by omega⟩ kp2 hu2
end
end K3
namespace K3
open PySem L2 Ur
section
variable {P : Program} {w : World} {K :
      PySem.W.Frag} {mg : Str → Option Value} {base : Heap}
abbrev n_law_urn : List Str := ["_law_script", "_law_lap", "_law_seed", "_law_cell", "_law_own"]
abbrev p_law_urn : List Str := ["_law_script", "_law_lap"]
theorem sc_law_urn : FnScope n_law_urn p_law_urn (defScope sUrn) := ⟨rfl, rfl, rfl, by decide +kernel, rfl, by decide +kernel, by decide +kernel⟩
def spUrn (K : PySem.W.Frag) : Sp := fun vs H Q _ => ∃ (a : Addr) (ns : List Int) (lap : Int), vs = [.ref a, .int lap] ∧ SqL K H a (ns.map V.int) ∧ 0 ≤ lap ∧ lap ≤ 10 ∧
  ∀ (p : Addr) (x y z : Int) (H' : Hp), H p = none → Same H H' → Bd x y z → H' p = some (.lst (nums x y z)) → Q (.ref p) H'
theorem ok_urn {f : Addr} {fd : FuncData} (F : Fun K "_law_urn" "_law_urn" sUrn f fd) (T : Bl mg) : FnOk P w K mg base CX0 1 f fd p_law_urn (spUrn K) := by
  refine F.ok sc_law_urn (fun vs H Q E h => ?_) (fun cdv A outer s H vs Q E hr h => ?_)
  · obtain ⟨a, ns, lap, rfl, _⟩ := h
    rfl
  · obtain ⟨a, ns, lap, rfl, hS, l0, l1, k⟩ := h
    refine ⟨_, (pss_cons (ps_set (i := 2) sc_law_urn.nd rfl (Or.inl rfl) (pe_op op_add pe_int (pe_op op_mul pe_int (pv 1))))
      (pss_cons (ps_for PassesOwn.never rfl (pi_list (pe_slice sl_list (pv 0) po_none (po_some pe_int))) (pg_name (i := 3) sc_law_urn.nd rfl (Or.inl rfl)) (pss_one (ps_set (i := 2) sc_law_urn.nd rfl (Or.inl rfl) (pe_op op_mod (pe_callTy call_int1 (by rfl) T.int PyProof.Rows.boot_int (pa_cons (pe_op op_add (pe_op op_add (pe_op op_mul (pv 2) pe_int) (pe_op op_mod (pe_callTy call_int1 (by rfl) T.int PyProof.Rows.boot_int (pa_cons (pv 3) pa_nil)) pe_int)) pe_int) pa_nil)) pe_int))))
      (pss_cons (ps_set (i := 4) sc_law_urn.nd rfl (Or.inl rfl) (pe_ifExp (pt_cmpR op_lt (pv 1) (pe_callB call_len_seq (by rfl) T.len PySem.boot_len (pa_cons (pv 0) pa_nil)) (nomark _)) (pe_callB call_abs (by rfl) T.abs PyProof.Rows.boot_abs (pa_cons (pe_callTy call_int1 (by rfl) T.int PyProof.Rows.boot_int (pa_cons (pe_ix ix_list (pv 0) (pv 1) (fun _ _ => rfl)) pa_nil)) pa_nil)) pe_int))
      (pss_one (ps_ret (pe_lst (pa_cons (pe_ifExp (pt_cmpR op_ge (pv 4) (pe_op op_pow pe_int pe_int) (nomark _)) (pv 4) pe_int) (pa_cons (pe_op op_mod (pe_callTy call_int1 (by rfl) T.int PyProof.Rows.boot_int (pa_cons (pe_op op_add (pe_op op_add (pe_op op_mul (pv 2) pe_int) (pe_op op_mod (pe_callTy call_int1 (by rfl) T.int PyProof.Rows.boot_int (pa_cons (pv 4) pa_nil)) pe_int)) pe_int) pa_nil)) pe_int) (pa_cons (pe_op op_add (pv 2) pe_int) pa_nil))))))))), ?_⟩
    refine ⟨_, rfl, _, _, rfl, rfl, Or.inl ⟨by decide, by decide⟩, _, _, rfl, rfl, ?_⟩
    refine ⟨_, rfl, 63, rfl, a, ns.map V.int, rfl, hS, fun p hp => ⟨p, rfl, ⟨_, SqL.of upd_same⟩, ?_⟩⟩
    obtain ⟨ms, ec⟩ : ∃ ms : List Int, cutV (ns.map V.int) none (some 63) = ms.map V.int := ⟨(ns.drop _).take _, by unfold cutV; rw [List.map_take, List.map_drop]⟩
    rw [ec]
    refine for_list (K := K) (a := p) (xs := ms.map V.int) (fun i σ H' => ∃ (sd : Int) (v : Option V), σ = [some (.ref a), some (.int lap), some (.int sd), v, none] ∧ 0 ≤ sd ∧ sd < 2147483549 ∧ Same H H' ∧ SqL K H' p (ms.map V.int))
      ⟨60427 + 7001 * lap, none, rfl, by omega, by omega, same_new hp, SqL.of upd_same⟩ (fun i σ H' _ ⟨_, _, _, _, _, _, z⟩ => z) ?_ ?_
    · rintro i y σ H' hi ⟨sd, v, rfl, s0, s1, sm, sq⟩
      obtain ⟨z, _, rfl⟩ := map_at hi
      refine ⟨_, rfl, _, _, rfl, rfl, Or.inl ⟨by omega, by omega⟩, _, rfl, Or.inl ⟨_, rfl, _, _, rfl, rfl, (by show (0 : Int) < 2147483549; decide), _, _, rfl, rfl, _, _, rfl, rfl, Or.inl ⟨_, rfl, _, _, rfl, rfl, (by show (0 : Int) < 2147483549; decide), ?_⟩⟩⟩
      exact ⟨_, _, rfl, Int.emod_nonneg _ (by decide), Int.emod_lt_of_pos _ (by decide), sm, sq⟩
    · rintro σ H' ⟨sd, v, rfl, s0, s1, sm, sq⟩
      have hS' := sm.seq hS
      obtain ⟨j, rfl⟩ := Int.eq_ofNat_of_zero_le l0
      refine ⟨_, rfl, _, rfl, a, _, rfl, Or.inl hS', _, _, rfl, rfl, _, rfl, ?_⟩
      have own0 : ∀ z : Int, 0 ≤ (if z < 0 then -z else z) := fun z => by split <;> omega
      have md : ∀ y : Int, 0 ≤ y % 2147483563 ∧ y % 2147483563 < 2147483563 := fun y => ⟨Int.emod_nonneg _ (by decide), Int.emod_lt_of_pos _ (by decide)⟩
      refine ite2 (fun c
            => ?_) (fun c => ?_)
      · have hj : j < ns.length := by
          have := of_decide_eq_true c
          rw [List.length_map] at this
          omega
        have hat : (ns.map V.int)[j]? = some (V.int ns[j]) := by simp [hj]
        refine ⟨_, rfl, _, rfl, a, _, _, _, rfl, rfl, hS', atI_nat hat, Or.inl ⟨_, rfl, _, rfl, ?_⟩⟩
        refine ⟨_, rfl, _, _, rfl, rfl, ⟨by decide, by decide, by decide⟩, _, _, rfl, rfl, _, rfl, ?_⟩
        generalize ho : (if ns[j] < 0 then -ns[j] else ns[j]) = own
        have o0 : 0 ≤ own := ho ▸ own0 _
        refine ite2 (fun _
              => ?_) (fun _ => ?_)
        · refine ⟨_, rfl, _, rfl, _, _, rfl, rfl, Or.inr ⟨by decide, by decide⟩, _, rfl, Or.inl ⟨_, rfl, _, _, rfl, rfl, (by show (0 : Int) < 2147483563; decide), _, _, rfl, rfl, _, _, rfl, rfl, Or.inl ⟨_, rfl, _, _, rfl, rfl, (by show (0 : Int) < 2147483563; decide), _, rfl, _, _, rfl, rfl, (by show 3 ≤ sizeLine; decide), fun q hq => ?_⟩⟩⟩
          exact k q own _ _ _ (sm.free hq) (sm.trans (same_new hq)) ⟨o0, (md _).1, by have := (md (sd * 41203 + own % 2147483563 + 5)).2; omega, by omega, by omega⟩ upd_same
        · refine ⟨_, rfl, _, _, rfl, rfl, Or.inr ⟨by decide, by decide⟩, _, rfl, Or.inl ⟨_, rfl, _, _, rfl, rfl, (by show (0 : Int) < 2147483563; decide), _, _, rfl, rfl, _, _, rfl, rfl, Or.inl ⟨_, rfl, _, _, rfl, rfl, (by show (0 : Int) < 2147483563; decide), _, rfl, _, _, rfl, rfl, (by show 3 ≤ sizeLine; decide), fun q hq => ?_⟩⟩⟩
          exact k q 0 _ _ _ (sm.free hq) (sm.trans (same_new hq)) ⟨by decide, (md _).1, by have := (md (sd * 41203 + own % 2147483563 + 5)).2; omega, by omega, by omega⟩ upd_same
      · refine ⟨_, rfl, _, _, rfl, rfl, ⟨by decide, by decide, by decide⟩, _, _, rfl, rfl, _, rfl, ?_⟩
        refine ite2 (fun _
              => ?_) (fun _ => ?_)
        · refine ⟨_, rfl, _, rfl, _, _, rfl, rfl, Or.inr ⟨by decide, by decide⟩, _, rfl, Or.inl ⟨_, rfl, _, _, rfl, rfl, (by show (0 : Int) < 2147483563; decide), _, _, rfl, rfl, _, _, rfl, rfl, Or.inl ⟨_, rfl, _, _, rfl, rfl, (by show (0 : Int) < 2147483563; decide), _, rfl, _, _, rfl, rfl, (by show 3 ≤ sizeLine; decide), fun q hq => ?_⟩⟩⟩
          exact k q 0 _ _ _ (sm.free hq) (sm.trans (same_new hq)) ⟨by decide, (md _).1, by have := (md (sd * 41203 + 0 % 2147483563 + 5)).2; omega, by omega, by omega⟩ upd_same
        · refine ⟨_, rfl, _, _, rfl, rfl, Or.inr ⟨by decide, by decide⟩, _, rfl, Or.inl ⟨_, rfl, _, _, rfl, rfl, (by show (0 : Int) < 2147483563; decide), _, _, rfl, rfl, _, _, rfl, rfl, Or.inl ⟨_, rfl, _, _, rfl, rfl, (by show (0 : Int) < 2147483563; decide), _, rfl, _, _, rfl, rfl, (by show 3 ≤ sizeLine; decide), fun q hq => ?_⟩⟩⟩
          exact k q 0 _ _ _ (sm.free hq) (sm.trans (same_new hq)) ⟨by decide, (md _).1, by have := (md (sd * 41203 + 0 % 2147483563 + 5)).2; omega, by omega, by omega⟩ upd_same
end
end K3
namespace Ur
open PySem L2
/-! ### Euclid, by halves -/
theorem gcd_turn {x y B i : Nat} (hy : 0 < y) (hxy : y < x) (h : x * y * 2 ^ i ≤ B) : y * (x % y) * 2 ^ (i + 1) ≤ B := by
  have h1 : 2 * (x % y) ≤ x := by
    have a := Nat.mod_lt x hy
    have b := Nat.mod_add_div x y
    have c : 1 ≤ x / y := (Nat.one_le_div_iff hy).mpr (Nat.le_of_lt hxy)
    have d : y * 1 ≤ y * (x / y) := Nat.mul_le_mul_left _ c
    omega
  have h2 : y * (x % y) * 2 ^ (i + 1) = y * (2 * (x % y)) * 2 ^ i := by
    rw [Nat.pow_succ, Nat.mul_comm (2 ^ i) 2, ← Nat.mul_assoc, Nat.mul_assoc y (x % y) 2, Nat.mul_comm (x % y) 2]
  rw [h2]
  refine Nat.le_trans (Nat.mul_le_mul_right _ (Nat.mul_le_mul_left _ h1)) ?_
  rw [Nat.mul_comm y x]
  exact h
theorem gcd_ends {x y B i : Nat} (hxy : y < x) (h : x * y * 2 ^ i ≤ B) (hB : B < 2 ^ i) : y = 0 := by
  cases y with
  | zero => rfl
  | succ y =>
    have : 1 * 2 ^ i ≤ x * (y + 1) * 2 ^ i := Nat.mul_le_mul_right _ (Nat.mul_pos (by omega) (by omega))
    omega
end Ur
namespace K3
open PySem L2 Ur
abbrev sGcd : Stmt := top 43
abbrev sThin : Stmt := top 44
section
variable {P : Program} {w : World} {K :
      PySem.W.Frag} {mg : Str → Option Value} {base : Heap}
abbrev n_law_gcd : List Str := ["_law_one", "_law_two", "_law_step"]
abbrev p_law_gcd : List Str := ["_law_one", "_law_two"]
theorem sc_law_gcd : FnScope n_law_gcd p_law_gcd (defScope sGcd) := ⟨rfl, rfl, rfl, by decide +kernel, rfl, by decide +kernel, by decide +kernel⟩
def spGcd : Sp := fun vs H Q _ => ∃ a b : Nat, vs = [.int a, .int b] ∧ b < 2 ^ 9000 ∧ Q (.int ((Nat.gcd a b : Nat) : Int)) H
theorem ok_gcd {f : Addr} {fd : FuncData} (F : Fun K "_law_gcd" "_law_gcd" sGcd f fd) (T : Bl mg) : FnOk P w K mg base CX0 1 f fd p_law_gcd spGcd := by
  refine F.ok sc_law_gcd (fun vs H Q E h => ?_) (fun cdv A outer s H vs Q E hr h => ?_)
  · obtain ⟨a, b, rfl, _⟩ := h
    rfl
  · obtain ⟨a, b, rfl, hb, k⟩ := h
    refine ⟨_, (pss_cons (ps_for PassesOwn.never rfl (pi_range1 (by rfl) T.range (pa_cons pe_int pa_nil)) (pg_name (i := 2) sc_law_gcd.nd rfl (Or.inl rfl)) (pss_cons (ps_if (pt_cmpR op_eq (pv 1) pe_int (nomark _)) (pss_one ps_break) pss_nil)
      (pss_one (ps_par (i := 0) (j := 1) rfl sc_law_gcd.nd rfl rfl (by decide) rfl rfl (pa_cons (pv 1) (pa_cons (pe_op op_mod (pe_callTy call_int1 (by rfl) T.int PyProof.Rows.boot_int (pa_cons (pv 0) pa_nil)) (pv 1)) pa_nil)) (by rfl)))))
      (pss_one (ps_ret (pv 0)))), ?_⟩
    have hB : b * b < 2 ^ 19998 := by
      have h1 : b * b < 2 ^ 9000 * 2 ^ 9000 := Nat.mul_lt_mul'' hb hb
      rw [← Nat.pow_add] at h1
      exact Nat.lt_of_lt_of_le h1 (Nat.pow_le_pow_right (by decide) (by decide))
    refine ⟨20000, rfl, by decide, by decide, for_range (lo := 0) (n := 20000) (fun i σ H' => ∃ (x y : Nat) (v : Option V), σ = [some (.int x), some (.int y), v] ∧ H' = H ∧ Nat.gcd x y = Nat.gcd a b ∧
      (i = 0 → x = a ∧ y = b) ∧ (0 < i → y < x ∧ x * y * 2 ^ (i - 1) ≤ b * b)) ⟨a, b, none, rfl, rfl, rfl, fun _ => ⟨rfl, rfl⟩, fun z => absurd z (by decide)⟩ ?_ ?_⟩
    · rintro i σ H' hi ⟨x, y, v, rfl, rfl, hg, h0, h1⟩
      refine ⟨_, rfl,
            rfl, _, rfl, ?_⟩
      refine ite2 (fun c
            => ?_) (fun c => ?_)
      · have e : (y : Int) = 0 := V.int.inj (of_decide_eq_true c)
        have e' : y = 0 := by omega
        subst e'
        rw [Nat.gcd_zero_right] at hg
        refine ⟨_, rfl, ?_⟩
        rw [hg]
        exact k
      · have e : ¬ y = 0 := fun z => c (decide_eq_true (by rw [z]; rfl))
        have hy : 0 < y := Nat.pos_of_ne_zero e
        refine ⟨_, rfl, _, rfl, Or.inl ⟨_, rfl, _, rfl, _, _, rfl, rfl, (by show (0 : Int) < (y : Int); omega), _, _, rfl, ?_⟩⟩
        refine ⟨y, x % y, some (.int (0 + (i : Int))), ?_, rfl, ?_, fun z => absurd z (by omega), fun _ => ⟨Nat.mod_lt _ hy, ?_⟩⟩
        · rw [Int.natCast_emod]
          rfl
        · rw [← hg, Nat.gcd_comm x y]
          exact (Nat.gcd_rec y x).symm ▸ Nat.gcd_comm _ _
        · cases i with
          | zero =>
            obtain ⟨rfl, rfl⟩ := h0 rfl
            have := Nat.mod_lt x hy
            show y * (x % y) * 2 ^ 0 ≤ y * y
            rw [Nat.pow_zero, Nat.mul_one]
            exact Nat.mul_le_mul_left _ (Nat.le_of_lt this)
          | succ i =>
            obtain ⟨h2, h3⟩ := h1 (by omega)
            exact gcd_turn hy h2 h3
    · rintro σ H' ⟨x, y, v, rfl, rfl, hg, h0, h1⟩
      obtain ⟨h2, h3⟩ := h1 (by decide)
      have e' : y = 0 := gcd_ends h2 h3 (Nat.lt_of_lt_of_le hB (Nat.pow_le_pow_right (by decide) (by decide)))
      subst e'
      rw [Nat.gcd_zero_right] at hg
      refine ⟨_, rfl, ?_⟩
      rw [hg]
      exact k
/-! ### thin -/
def gAll (ns : List Int) : Nat := ns.foldl (fun g n => Nat.gcd g n.natAbs) 0
def thin (ns : List Int) : List Int := if gAll ns < 2 then ns else ns.map fun n => n / (gAll ns : Int)
abbrev n_law_thin : List Str := ["_law_row", "_law_common", "_law_number"]
abbrev p_law_thin : List Str := ["_law_row"]
theorem sc_law_thin : FnScope n_law_thin p_law_thin (defScope sThin) := ⟨rfl, rfl, rfl, by decide +kernel, rfl, by decide +kernel, by decide +kernel⟩
def spThin (K : PySem.W.Frag) : Sp := fun vs H Q _ => ∃ (t : Addr) (ns : List Int), vs = [.ref t] ∧ SqT K H t (ns.map V.int) ∧ ns.length ≤ 1000 ∧ (∀ n ∈ ns, n.natAbs < 2 ^ 9000) ∧
  ∀ (p : Addr) (H' : Hp), Same H H' → SqT K H' p ((thin ns).map V.int) → Q (.ref p) H'
theorem take_next {α : Type} {l : List α} {i : Nat} {x : α}
      (h : l[i]? = some x) : l.take (i + 1) = l.take i ++ [x] := by
  obtain ⟨hi, rfl⟩ := List.getElem?_eq_some_iff.mp h
  exact List.take_succ_eq_append_getElem hi
theorem gAll_next {ns : List Int} {i : Nat} {z : Int} (h : ns[i]? = some z) : gAll (ns.take (i + 1)) = Nat.gcd (gAll (ns.take i)) z.natAbs := by
  unfold gAll
  rw [take_next h, List.foldl_append]
  rfl
theorem gAll_big : ∀ (ns : List Int) (g : Nat), g < 2 ^ 9000 → (∀ n ∈ ns, n.natAbs < 2 ^ 9000) → ns.foldl (fun g n => Nat.gcd g n.natAbs) g < 2 ^ 9000
  | [], g, h, _ => h
  | n :: r, g, h, hs => by
    refine gAll_big r _ ?_ fun m hm => hs m (List.mem_cons_of_mem _ hm)
    have hn := hs n List.mem_cons_self
    show Nat.gcd g n.natAbs < 2 ^ 9000
    by_cases z : g = 0
    · rw [z, Nat.gcd_zero_left]; exact hn
    · exact Nat.lt_of_le_of_lt (Nat.gcd_le_left _ (Nat.pos_of_ne_zero z)) h
theorem abs_nat (z : Int) : (if z < 0 then -z else z) = ((z.natAbs : Nat) : Int) := by
  split <;> omega
theorem big0 : 0 < 2 ^ 9000 := Nat.pow_pos (by decide)
theorem ok_thin {f : Addr} {fd : FuncData} (F : Fun K "_law_thin" "_law_thin" sThin f fd) (T : Bl mg) (H_law_gcd : Has P w K mg base "_law_gcd" p_law_gcd 1 spGcd) : FnOk P w K mg base CX0 2 f fd p_law_thin (spThin K) := by
  refine F.ok sc_law_thin (fun vs H Q E h => ?_) (fun cdv A outer s H vs Q E hr h => ?_)
  · obtain ⟨t, ns, rfl, _⟩ := h
    rfl
  · obtain ⟨t, ns, rfl, hS, hl, hb, k⟩ := h
    refine ⟨_, (pss_cons (ps_set (i := 1) sc_law_thin.nd rfl (Or.inr rfl) pe_int)
      (pss_cons (ps_for PassesOwn.never rfl (pi_tup (pv 0)) (pg_name (i := 2) sc_law_thin.nd rfl (Or.inl rfl)) (pss_one (ps_set (i := 1) sc_law_thin.nd rfl (Or.inr rfl) (pe_has H_law_gcd (hr.mono (by decide)) (by rfl) (pa_cons (pv 1) (pa_cons (pe_callB call_abs (by rfl) T.abs PyProof.Rows.boot_abs (pa_cons (pv 2) pa_nil)) pa_nil))))))
      (pss_one (ps_ret (pe_ifExp (pt_cmpR op_lt (pv 1) pe_int (nomark _)) (pe_callTy call_tuple_of (by rfl) T.tuple PyProof.Rows.boot_tuple (pa_cons (pv 0) pa_nil)) (pe_callTy call_tuple_of (by rfl) T.tuple PyProof.Rows.boot_tuple (pa_cons (pe_lc (own := [("_law_number", 2)]) (g := gName 2) (tt := tYes) rfl sc_law_thin.nd (pi_tup (pv 0)) (blkOk_by (N := n_law_thin) (sc := defScope sThin) (by decide +kernel)) (fun _ _ _ _ _ => pg_name (i := 2) sc_law_thin.nd rfl (Or.inl rfl)) (fun _ _ _ _ _ => pts_nil) (fun _ _ _ _ _ => (pe_op op_fdivW (pv 2) (pv 1)))) pa_nil))))))), ?_⟩
    refine ⟨_, rfl, t, rfl, ⟨_, hS⟩, for_tup (K := K) (a := t) (xs := ns.map V.int) (fun i σ H' => ∃ v : Option V, σ = [some (.ref t), some (.int (gAll (ns.take i) : Nat)), v] ∧ H' = H) ⟨none, rfl, rfl⟩ (fun i σ H' _ ⟨_, _, e⟩ => e ▸ hS) ?_ ?_⟩
    · rintro i y σ H' hi ⟨v, rfl, rfl⟩
      obtain ⟨z, hz, rfl⟩ := map_at hi
      have hzb := hb z (List.mem_of_getElem? hz)
      refine ⟨_, rfl, _, rfl, _, rfl, ?_⟩
      refine ⟨gAll (ns.take i), z.natAbs, by rw [← abs_nat]; rfl, hzb, ?_⟩
      refine ⟨some (V.int z), ?_, rfl⟩
      rw [gAll_next hz]
      rfl
    · rintro σ H' ⟨v, rfl, rfl⟩
      have eg : gAll (ns.take (ns.map V.int).length) = gAll ns := by rw [List.length_map, List.take_length]
      rw [eg]
      refine ⟨_, rfl, _, _,
            rfl, rfl, _, rfl, ?_⟩
      refine ite2 (fun c
            => ?_) (fun c => ?_)
      · have c' := of_decide_eq_true c
        refine ⟨_, rfl, t, _, rfl, Or.inr ⟨hS, ?_⟩⟩
        refine k t H' (Same.refl _) ?_
        unfold thin
        rw [if_pos (by omega)]
        exact hS
      · have c' : ¬ gAll ns < 2 := fun z => c (decide_eq_true (by omega))
        have gb : gAll ns < 2 ^ 9000 := gAll_big ns 0 big0 hb
        unfold tCB tCons tNil
        dsimp only
        refine lcT (K := K) (a := t) (xs := ns.map V.int) (fun i y => ∃ z, ns[i]? = some z ∧ y = .int (z / (gAll ns : Int))) (fun R r => ⟨_, rfl, r⟩) hS (by rw [List.length_map]; omega) (fun x => rfl) (fun i x H3 hi _ Q' q' => ?_) (fun D ys H2 hD sm hy e1 e2 => ?_)
        · obtain ⟨z, hz, rfl⟩ := map_at hi
          exact ⟨_, rfl, _, rfl, _, _, rfl, rfl, wide_div (b := 9000) (by omega) (by simpa using gb) (by decide) (by decide), q' _ _ ⟨z, hz, rfl⟩ (Same.refl _)⟩
        · refine ⟨D, ys, rfl, Or.inl ⟨SqL.of hy, fun l hl => ?_⟩⟩
          refine k l _ (sm.trans (same_new hl)) ?_
          have ey : ys = (thin ns).map V.int := by
            unfold thin
            rw [if_neg c']
            apply List.ext_getElem?
            intro i
            cases h : ys[i]? with
            | none =>
              have := List.getElem?_eq_none_iff.mp h
              rw [List.getElem?_eq_none (by simp at e1 ⊢; omega)]
            | some y =>
              obtain ⟨z, hz, rfl⟩ := e2 i y h
              simp [hz]
          rw [← ey]
          exact SqT.of upd_same
end
end K3
namespace K3
open PySem L2 Ur
abbrev sCom : Stmt := top 7
abbrev sWhole : Stmt := top 21
abbrev sWholes : Stmt := top 22
abbrev sFracF : Stmt := top 23
abbrev sPointF : Stmt := top 24
def isFr : List V → Bool
  | [.int n, .int m] => decide (0 < m) && decide (Nat.gcd n.natAbs m.natAbs = 1)
  | _ => false
def isPt : List V → Bool
  | [.int x, .int y, .int w] => decide (0 < w) && decide (Nat.gcd (Nat.gcd x.natAbs y.natAbs) w.natAbs = 1)
  | _ => false
def isDr : List V → Bool
  | [.int n, .int m] => decide (Nat.gcd n.natAbs m.natAbs = 1)
  | _ => false
theorem ns_len {n : Nat} {ns : List Int} (h : decide (V.int ((ns.map V.int).length : Int) = V.int (n : Int)) = true) : ns.length = n := by
  have e := V.int.inj (of_decide_eq_true h)
  rw [List.length_map] at e
  omega
theorem not_len {n : Nat} {ns : List Int} (h : ¬ decide (V.int ((ns.map V.int).length : Int) = V.int (n : Int)) = true) : ns.length ≠ n := fun e => h (decide_eq_true (by rw [List.length_map, e]))
theorem fr_no {ns : List Int} (h : ns.length ≠ 2) : isFr (ns.map V.int) = false := by
  match ns, h with
  | [], _ => rfl
  | [_], _ => rfl
  | _ :: _ :: _ :: _, _ => rfl
theorem dr_no {ns : List Int} (h : ns.length ≠ 2) : isDr (ns.map V.int) = false := by
  match ns, h with
  | [], _ => rfl
  | [_], _ => rfl
  | _ :: _ :: _ :: _, _ => rfl
theorem pt_no {ns : List Int} (h : ns.length ≠ 3) : isPt (ns.map V.int) = false := by
  match ns, h with
  | [], _ => rfl
  | [_], _ => rfl
  | [_, _], _ => rfl
  | _ :: _ :: _ :: _ :: _, _ => rfl
theorem fr_wh : ∀ {xs : List V}, isFr xs = true → xs.all wh = true
  | [.int n, .int m], _ => rfl
theorem dr_wh : ∀ {xs : List V}, isDr xs = true → xs.all wh = true
  | [.int n, .int m], _ => rfl
theorem pt_wh : ∀ {xs : List V}, isPt xs = true → xs.all wh = true
  | [.int x, .int y, .int w], _ => rfl
theorem of_wh {g : List V → Bool} (hg : ∀ {xs : List V}, g xs = true → xs.all wh = true) {xs : List V} (h : xs.all wh = false) : g xs = false := by
  cases e : g xs with
  | false => rfl
  | true => rw [hg e] at h; cases h
section
variable {P : Program} {w : World} {K :
      PySem.W.Frag} {mg : Str → Option Value} {base : Heap}
/-! ### gcds -/
abbrev n_common_divisor : List Str := ["numbers", "found", "number"]
abbrev p_common_divisor : List Str := ["numbers"]
theorem sc_common_divisor : FnScope n_common_divisor p_common_divisor (defScope sCom) := ⟨rfl, rfl, rfl, by decide +kernel, rfl, by decide +kernel, by decide +kernel⟩
def spCom (K : PySem.W.Frag) : Sp := fun vs H Q _ => ∃ (t : Addr) (ns : List Int), vs = [.ref t] ∧ SqT K H t (ns.map V.int) ∧ Q (.int (gAll ns : Nat)) H
theorem ok_com {f : Addr} {fd : FuncData} (F : Fun K "common_divisor" "common_divisor" sCom f fd) (mG : mg "gcd" = some (.builtin "math.gcd")) : FnOk P w K mg base CX0 1 f fd p_common_divisor (spCom K) := by
  refine F.ok sc_common_divisor (fun vs H Q E h => ?_) (fun cdv A outer s H vs Q E hr h => ?_)
  · obtain ⟨t, ns, rfl, _⟩ := h
    rfl
  · obtain ⟨t, ns, rfl, hS, k⟩ := h
    refine ⟨_, (pss_cons (ps_set (i := 1) sc_common_divisor.nd rfl (Or.inl rfl) pe_int)
      (pss_cons (ps_for PassesOwn.never rfl (pi_tup (pv 0)) (pg_name (i := 2) sc_common_divisor.nd rfl (Or.inl rfl)) (pss_one (ps_set (i := 1) sc_common_divisor.nd rfl (Or.inl rfl) (pe_callBfun cr_gcd (by rfl) mG (pa_cons (pv 1) (pa_cons (pv 2) pa_nil))))))
      (pss_one (ps_ret (pv 1))))), ?_⟩
    refine ⟨_, rfl, t, rfl, ⟨_, hS⟩, for_tup (K := K) (a := t) (xs := ns.map V.int) (fun i σ H' => ∃ v : Option V, σ = [some (.ref t), some (.int (gAll (ns.take i) : Nat)), v] ∧ H' = H) ⟨none, rfl, rfl⟩ (fun i σ H' _ ⟨_, _, e⟩ => e ▸ hS) ?_ ?_⟩
    · rintro i y σ H' hi ⟨v, rfl, rfl⟩
      obtain ⟨z, hz, rfl⟩ := map_at hi
      refine ⟨_, rfl, _, rfl, _, _, rfl, some (V.int z), ?_, rfl⟩
      rw [gAll_next hz, Int.natAbs_natCast]
      rfl
    · rintro σ H' ⟨v, rfl, rfl⟩
      rw [List.length_map,
            List.take_length]
      exact ⟨_, rfl, k⟩
/-! ### whole numbers -/
def spWhole (K : PySem.W.Frag) : Sp := fun vs H Q _ => ∃ (x : V) (k : Kd), vs = [x] ∧ OfKd K H x k ∧ Q (.bl (wh x)) H
theorem whole_read {K : PySem.W.Frag} {x : V} {k : Kd} {H : Hp} {Q : VK} (hx : OfKd K H x k) (q : Q (.bl (wh x)) H) :
    tRet (tAndV (tCB (rIsi K) (tCons (tVar 0) (tCons (tC (.ty "int")) tNil))) (tNotV (tCB (rIsi K) (tCons (tVar 0) (tCons (tC (.ty "bool")) tNil))))) { nx := fun _ H' => Q .non H', rt := Q } [some x] H := by
  refine ⟨x, rfl, x, _, _, _, _, rfl, .ty "int", hx, kit_ty (kd_int k), _, rfl, ?_⟩
  have ew := ofKd_wh hx
  refine ite2 (fun c
        => ?_) (fun c => ?_)
  · refine ⟨x, rfl, x, _, _, _, _, rfl, .ty "bool", hx, kit_ty (kd_bool k), _, rfl, ?_⟩
    have : (!(k == Kd.bool)) = wh x := by
      rw [← ew]
      cases k <;> first | rfl | (exact absurd c (by decide))
    rw [this]
    exact q
  · have : false = wh x := by
      rw [← ew]
      cases k <;> first | rfl | (exact absurd rfl c)
    rw [this]
    exact q
abbrev n_is_whole : List Str := ["value"]
theorem sc_is_whole : FnScope n_is_whole n_is_whole (defScope sWhole) := ⟨rfl, rfl, rfl, by decide +kernel, rfl, by decide +kernel, by decide +kernel⟩
theorem ok_whole {f : Addr} {fd : FuncData} (F : Fun K "is_whole" "is_whole" sWhole f fd) (T : Bl mg) : FnOk P w K mg base CX0 1 f fd n_is_whole (spWhole K) := by
  refine F.ok sc_is_whole (fun vs H Q E h => ?_) (fun cdv A outer s H vs Q E hr h => ?_)
  · obtain ⟨x, k, rfl, _⟩ := h
    rfl
  · obtain ⟨x, k, rfl, hx, q⟩ := h
    exact ⟨_, (pss_one (ps_ret (pe_and (pe_callB call_isi (by rfl) T.isinstance PyProof.Rows.boot_isinstance (pa_cons (pv 0) (pa_cons (pe_bltn (v := .ty "int") (by rfl) T.int PyProof.Rows.boot_int rfl) pa_nil))) (pe_one (pe_not (pe_callB call_isi (by rfl) T.isinstance PyProof.Rows.boot_isinstance (pa_cons (pv 0) (pa_cons (pe_bltn (v := .ty "bool") (by rfl) T.bool PyProof.Rows.boot_bool rfl) pa_nil)))))))), whole_read hx q⟩
end
end K3
namespace K3
open PySem L2 Ur
section
variable {P : Program} {w : World} {K :
      PySem.W.Frag} {mg : Str → Option Value} {base : Heap}
abbrev n_wholes_fit : List Str := ["value", "number"]
abbrev p_wholes_fit : List Str := ["value"]
theorem sc_wholes_fit : FnScope n_wholes_fit p_wholes_fit (defScope sWholes) := ⟨rfl, rfl, rfl, by decide +kernel, rfl, by decide +kernel, by decide +kernel⟩
/-- told of a value of any kind -/
def spTold (K : PySem.W.Frag) (g : List V → Bool) : Sp := fun vs H Q _ => ∃ (x : V) (k : Kd) (xs : List V), vs = [x] ∧ Arg K H x k xs ∧ ∀ H' : Hp, Same H H' → Q (.bl (k == .tup && g xs)) H'
theorem kd_ne {k : Kd} {b : Bool} (c : ¬ (k == Kd.tup) = true) : (k == Kd.tup && b) = false := by
  cases h : (k == Kd.tup) with
  | true => exact absurd h c
  | false => rfl
theorem ok_wholes {f : Addr} {fd : FuncData} (F : Fun K "wholes_fit" "wholes_fit" sWholes f fd) (T : Bl mg) (H_is_whole : Has P w K mg base "is_whole" n_is_whole 1 (spWhole K)) : FnOk P w K mg base CX0 2 f fd p_wholes_fit (spTold K fun xs => xs.all wh) := by
  refine F.ok sc_wholes_fit (fun vs H Q E h => ?_) (fun cdv A outer s H vs Q E hr h => ?_)
  · obtain ⟨x, k, xs, rfl, _⟩ := h
    rfl
  · obtain ⟨x, k, xs, rfl, A1, q⟩ := h
    refine ⟨_, (pss_one (ps_ret (pe_and (pe_callB call_isi (by rfl) T.isinstance PyProof.Rows.boot_isinstance (pa_cons (pv 0) (pa_cons (pe_bltn (v := .ty "tuple") (by rfl) T.tuple PyProof.Rows.boot_tuple rfl) pa_nil))) (pe_one (pe_callB (cr_all rfl) (by rfl) T.all PyProof.Rows.boot_all (pa_cons (pe_lc (own := [("number", 1)]) (g := gName 1) (tt := tYes) rfl sc_wholes_fit.nd (pi_tup (pv 0)) (blkOk_by (N := n_wholes_fit) (sc := defScope sWholes) (by decide +kernel)) (fun _ _ _ _ _ => pg_name (i := 1) sc_wholes_fit.nd rfl (Or.inl rfl)) (fun _ _ _ _ _ => pts_nil) (fun _ _ _ _ _ => (pe_has H_is_whole (hr.mono (by decide)) (by rfl) (pa_cons (pv 1) pa_nil)))) pa_nil)))))), ?_⟩
    refine ⟨x, rfl, x, _, _, _, _, rfl, .ty "tuple", A1.ty, kit_ty (kd_tup k), _, rfl, ?_⟩
    refine ite2 (fun c
          => ?_) (fun c => ?_)
    · obtain ⟨a, rfl, hS, hl, hk, hb⟩ := A1.its (by simpa using c)
      unfold tCB tCons tNil
      dsimp only
      refine lcT (K := K) (a := a) (xs := xs) (fun i y => ∃ z, xs[i]? = some z ∧ y = .bl (wh z)) (fun R r => ⟨_, rfl, r⟩) hS (by omega) (fun x => rfl) (fun i z H3 hi sm Q' q' => ?_) (fun D ys H2 hD sm hy e1 e2 => ?_)
      · obtain ⟨l, hl⟩ := (hk z (List.mem_of_getElem? hi)).kd
        exact ⟨z, rfl, z, l, rfl, ofKd_same sm hl, q' _ _ ⟨z, hi, rfl⟩ (Same.refl _)⟩
      · have ey : ys = (xs.map wh).map V.bl := by
          apply List.ext_getElem?
          intro i
          cases h : ys[i]? with
          | none =>
            have := List.getElem?_eq_none_iff.mp h
            rw [List.getElem?_eq_none (by simp at e1 ⊢; omega)]
          | some y =>
            obtain ⟨z, hz, rfl⟩ := e2 i y h
            simp [hz]
        rw [ey] at hy
        refine ⟨D, xs.map wh, rfl, SqL.of hy, ?_⟩
        have e3 : (xs.map wh).all id = (k == Kd.tup && xs.all wh) := by
          rw [c, List.all_map]
          rfl
        rw [e3]
        exact q H2 sm
    · have := q H (Same.refl H)
      rw [kd_ne c] at this
      exact this
abbrev n_value : List Str := ["value"]
theorem sc_frac : FnScope n_value n_value (defScope sFracF) := ⟨rfl, rfl, rfl, by decide +kernel, rfl, by decide +kernel, by decide +kernel⟩
theorem sc_point : FnScope n_value n_value (defScope sPointF) := ⟨rfl, rfl, rfl, by decide +kernel, rfl, by decide +kernel, by decide +kernel⟩
theorem ok_fracF {f : Addr} {fd : FuncData} (F : Fun K "fraction_fits" "fraction_fits" sFracF f fd) (T : Bl mg) (mG : mg "gcd" = some (.builtin "math.gcd")) (H_wholes_fit : Has P w K mg base "wholes_fit" p_wholes_fit 2 (spTold K fun xs => xs.all wh)) : FnOk P w K mg base CX0 3 f fd n_value (spTold K isFr) := by
  refine F.ok sc_frac (fun vs H Q E h => ?_) (fun cdv A outer s H vs Q E hr h => ?_)
  · obtain ⟨x, k, xs, rfl, _⟩ := h
    rfl
  · obtain ⟨x, k, xs, rfl, A1, q⟩ := h
    refine ⟨_, (pss_one (ps_ret (pe_and (pe_has H_wholes_fit (hr.mono (by decide)) (by rfl) (pa_cons (pv 0) pa_nil)) (pe_and (pe_cmpR op_eq (pe_callB call_len_seq (by rfl) T.len PySem.boot_len (pa_cons (pv 0) pa_nil)) pe_int (nomark _)) (pe_and (pe_cmpR op_gt (pe_ix ix_tup (pv 0) pe_int (fun _ _ => rfl)) pe_int (nomark _)) (pe_one (pe_cmpR op_eq (pe_callBfun cr_gcd (by rfl) mG (pa_cons (pe_ix ix_tup (pv 0) pe_int (fun _ _ => rfl)) (pa_cons (pe_ix ix_tup (pv 0) pe_int (fun _ _ => rfl)) pa_nil))) pe_int (nomark _)))))))), ?_⟩
    refine ⟨x, rfl, x, k, xs, rfl, A1, fun H1 s1 => ⟨_, rfl, ?_⟩⟩
    have no : isFr xs = false → Q (.bl false) H1 := fun e => by
      have := q H1 s1
      rw [e, Bool.and_false] at this
      exact this
    refine ite2 (fun c
          => ?_) (fun c => ?_)
    · rw [Bool.and_eq_true] at c
      obtain ⟨a, rfl, hS, _, _, _⟩ := (A1.same s1).its (by simpa using c.1)
      obtain ⟨ns, rfl⟩ := all_wh c.2
      refine ⟨_, rfl, a, _, rfl, Or.inr hS, rfl, _, rfl, ?_⟩
      refine ite2 (fun c2 => ?_) (fun c2 => no (fr_no (not_len (n := 2) c2)))
      match ns, ns_len (n := 2) c2, q, no, hS with
      | [n, m], _, q, no, hS =>
        refine ⟨_, rfl, a, _, 1, _, rfl, rfl, hS, rfl, _, _, rfl, rfl, _, rfl, ?_⟩
        refine ite2 (fun c3 => ?_) (fun c3 => ?_)
        · refine ⟨_, rfl, a, _, 0, _, rfl, rfl, hS, rfl, _, rfl, a, _, 1, _, rfl, rfl, hS, rfl, _, _, rfl, rfl, ?_⟩
          have := q H1 s1
          have e : (k == Kd.tup && isFr ([n, m].map V.int)) = decide (V.int ((Nat.gcd n.natAbs m.natAbs : Nat) : Int) = V.int 1) := by
            rw [c.1]
            show (decide (0 < m) && decide (Nat.gcd n.natAbs m.natAbs = 1)) = _
            rw [c3, Bool.true_and]
            refine decide_eq_decide.mpr ⟨fun e => by rw [e]; rfl, fun e => ?_⟩
            have := V.int.inj e
            omega
          rw [e] at this
          exact this
        · refine no ?_
          show (decide (0 < m) && _) = false
          rw [Bool.eq_false_iff.mpr c3]
          rfl
    · have := q H1 s1
      have e : (k == Kd.tup && isFr xs) = false := by
        cases h : (k == Kd.tup) with
        | false => rfl
        | true =>
          rw [h, Bool.true_and] at c
          rw [of_wh fr_wh (by simpa using c)]
          rfl
      rw [e] at this
      exact this
/-- where the first test says no -/
theorem no_of {k : Kd} {xs : List V} {g : List V → Bool} (hg : ∀ {xs : List V}, g xs = true → xs.all wh = true) (c : ¬ (k == Kd.tup && (fun xs => xs.all wh) xs) = true) : (k == .tup && g xs) = false := by
  cases h : (k == Kd.tup) with
  | false => rfl
  | true =>
    rw [h, Bool.true_and] at c
    rw [of_wh hg (by simpa using c)]
    rfl
theorem ok_pointF {f : Addr} {fd : FuncData} (F : Fun K "point_fits" "point_fits" sPointF f fd) (T : Bl mg) (H_common_divisor : Has P w K mg base "common_divisor" p_common_divisor 1 (spCom K)) (H_wholes_fit : Has P w K mg base "wholes_fit" p_wholes_fit 2 (spTold K fun xs => xs.all wh)) : FnOk P w K mg base CX0 3 f fd n_value (spTold K isPt) := by
  refine F.ok sc_point (fun vs H Q E h => ?_) (fun cdv A outer s H vs Q E hr h => ?_)
  · obtain ⟨x, k, xs, rfl, _⟩ := h
    rfl
  · obtain ⟨x, k, xs, rfl, A1, q⟩ := h
    refine ⟨_, (pss_one (ps_ret (pe_and (pe_has H_wholes_fit (hr.mono (by decide)) (by rfl) (pa_cons (pv 0) pa_nil)) (pe_and (pe_cmpR op_eq (pe_callB call_len_seq (by rfl) T.len PySem.boot_len (pa_cons (pv 0) pa_nil)) pe_int (nomark _)) (pe_and (pe_cmpR op_gt (pe_ix ix_tup (pv 0) pe_int (fun _ _ => rfl)) pe_int (nomark _)) (pe_one (pe_cmpR op_eq (pe_has H_common_divisor (hr.mono (by decide)) (by rfl) (pa_cons (pv 0) pa_nil)) pe_int (nomark _)))))))), ?_⟩
    refine ⟨x, rfl, x, k, xs, rfl, A1, fun H1 s1 => ⟨_, rfl, ?_⟩⟩
    have no : (k == .tup && isPt xs) = false → Q (.bl false) H1 := fun e => by
      have := q H1 s1
      rw [e] at this
      exact this
    refine ite2 (fun c => ?_) (fun c => no (no_of pt_wh c))
    rw [Bool.and_eq_true] at c
    obtain ⟨a, rfl, hS, _, _, _⟩ := (A1.same s1).its (by simpa using c.1)
    obtain ⟨ns, rfl⟩ := all_wh c.2
    refine ⟨_, rfl, a, _, rfl, Or.inr hS, rfl, _, rfl, ?_⟩
    refine ite2 (fun c2 => ?_) (fun c2 => no (by rw [pt_no (not_len (n := 3) c2), Bool.and_false]))
    match ns, ns_len (n := 3) c2, q, no, hS with
    | [n, m, l], _, q, no, hS =>
      refine ⟨_, rfl, a, _, 2, _, rfl, rfl, hS, rfl, _, _, rfl, rfl, _, rfl, ?_⟩
      refine ite2 (fun c3 => ?_) (fun c3 => ?_)
      · refine ⟨_, rfl, a, [n, m, l], rfl, hS, rfl, ?_⟩
        have := q H1 s1
        have e : (k == Kd.tup && isPt ([n, m, l].map V.int)) = decide (V.int (gAll [n, m, l] : Nat) = V.int 1) := by
          rw [c.1]
          show (decide (0 < l) && decide (Nat.gcd (Nat.gcd n.natAbs m.natAbs) l.natAbs = 1)) = _
          rw [c3, Bool.true_and]
          show _ = decide (V.int ((Nat.gcd (Nat.gcd (Nat.gcd 0 n.natAbs) m.natAbs) l.natAbs : Nat) : Int) = V.int 1)
          rw [Nat.gcd_zero_left]
          refine decide_eq_decide.mpr ⟨fun e => by rw [e]; rfl, fun e => ?_⟩
          have := V.int.inj e
          omega
        rw [e] at this
        exact this
      · refine no ?_
        rw [c.1]
        show (decide (0 < l) && _) = false
        rw [Bool.eq_false_iff.mpr c3]
        rfl
/-! ### the module's own -/
theorem pass_read {x : V} {k : Kd} {xs : List V} {g : List V → Bool} {H : Hp} {Q : VK} (A1 : Arg K H x k xs) (q : ∀ H' : Hp, Same H H' → Q (.bl (k == .tup && g xs)) H') :
    tRet (tCall (spTold K g) [] E0 (tCons (tVar 0) tNil)) { nx := fun _ H' => Q .non H', rt := Q } [some x] H := ⟨x, rfl, x, k, xs, rfl, A1, q⟩
end
end K3
namespace K3
open PySem L2 Ur
/-! ### plain -/
theorem thin_one {ns : List Int} (h : gAll ns = 1) : thin ns = ns := by
  unfold thin
  rw [if_pos (by omega)]
theorem div_ne {g : Nat} {z : Int} (h2 : 2 ≤ g) (hd : g ∣ z.natAbs) (hz : z ≠ 0) : z / (g : Int) ≠ z := by
  intro e
  obtain ⟨q, hq⟩ := hd
  have hdv : (g : Int) ∣ z := Int.ofNat_dvd_left.mpr ⟨q, hq⟩
  have h3 := Int.ediv_mul_cancel hdv
  rw [e] at h3
  have h4 : z * (g : Int) = z * 1 := by rw [h3, Int.mul_one]
  have h5 := Int.eq_of_mul_eq_mul_left hz h4
  omega
theorem gAll_two (a b : Int) : gAll [a, b] = Nat.gcd a.natAbs b.natAbs := by
  show Nat.gcd (Nat.gcd 0 a.natAbs) b.natAbs = _
  rw [Nat.gcd_zero_left]
theorem gAll_three (a b c : Int) : gAll [a, b, c] = Nat.gcd (Nat.gcd a.natAbs b.natAbs) c.natAbs := by
  show Nat.gcd (Nat.gcd (Nat.gcd 0 a.natAbs) b.natAbs) c.natAbs = _
  rw [Nat.gcd_zero_left]
theorem spot_is {x y z : Int} (hz : 0 < z) : (thin [x, y, z] = [x, y, z]) ↔ Nat.gcd (Nat.gcd x.natAbs y.natAbs) z.natAbs = 1 := by
  have g0 : 0 < gAll [x, y, z] := by
    rw [gAll_three]
    exact Nat.gcd_pos_of_pos_right _ (by omega)
  constructor
  · intro e
    rw [← gAll_three]
    refine Classical.byContradiction fun h1 => ?_
    unfold thin at e
    rw [if_neg (by omega)] at e
    have e3 : z / ((gAll [x, y, z] : Nat) : Int) = z := by
      have := congrArg (fun l => l[2]?) e
      exact Option.some.inj this
    refine div_ne (by omega) ?_ (by omega) e3
    rw [gAll_three]
    exact Nat.gcd_dvd_right _ _
  · intro h
    exact thin_one (by rw [gAll_three]; exact h)
theorem aim_is {x y : Int} (h0 : ¬ (x = 0 ∧ y = 0)) : (thin [x, y] = [x, y]) ↔ Nat.gcd x.natAbs y.natAbs = 1 := by
  have g0 : 0 < gAll [x, y] := by
    rw [gAll_two]
    rcases Nat.eq_zero_or_pos (Nat.gcd x.natAbs y.natAbs) with h | h
    · rw [Nat.gcd_eq_zero_iff] at h
      exact absurd ⟨by omega, by omega⟩ h0
    · exact h
  constructor
  · intro e
    rw [← gAll_two]
    refine Classical.byContradiction fun h1 => ?_
    unfold thin at e
    rw [if_neg (by omega)] at e
    have e1 : x / ((gAll [x, y] : Nat) : Int) = x := Option.some.inj (congrArg (fun l => l[0]?) e)
    have e2 : y / ((gAll [x, y] : Nat) : Int) = y := Option.some.inj (congrArg (fun l => l[1]?) e)
    by_cases hx : x = 0
    · refine div_ne (by omega) ?_ (fun hy => h0 ⟨hx, hy⟩) e2
      rw [gAll_two]
      exact Nat.gcd_dvd_right _ _
    · refine div_ne (by omega) ?_ hx e1
      rw [gAll_two]
      exact Nat.gcd_dvd_left _ _
  · intro h
    exact thin_one (by rw [gAll_two]; exact h)
section
variable {P : Program} {w : World} {K :
      PySem.W.Frag} {mg : Str → Option Value} {base : Heap}
def areB (k : Kd) (xs : List V) (m : Nat) : Bool := k == .tup && (decide (xs.length = m) && xs.all wh)
def spAre (K : PySem.W.Frag) : Sp := fun vs H Q _ => ∃ (x : V) (k : Kd) (xs : List V) (m : Nat), vs = [x, .int (m : Int)] ∧ Arg K H x k xs ∧ ∀ H' : Hp, Same H H' → Q (.bl (areB k xs m)) H'
theorem areB_yes {k : Kd} {xs : List V} {m : Nat} (h : areB k xs m = true) : k = .tup ∧ xs.length = m ∧ ∃ ns : List Int, xs = ns.map V.int := by
  unfold areB at h
  rw [Bool.and_eq_true, Bool.and_eq_true] at h
  exact ⟨by simpa using h.1, of_decide_eq_true h.2.1, all_wh h.2.2⟩
theorem areB_no {k : Kd} {xs : List V} {m : Nat} {g : List V → Bool} (h : ¬ areB k xs m = true) (hw : g xs = true → xs.length = m ∧ xs.all wh = true) : (k == .tup && g xs) = false := by
  cases hk : (k == Kd.tup) with
  | false => rfl
  | true =>
    cases hg : g xs with
    | false => rfl
    | true =>
      obtain ⟨h1, h2⟩ := hw hg
      refine absurd ?_ h
      unfold areB
      rw [hk, decide_eq_true h1, h2]
      rfl
theorem fr_len : ∀ {xs : List V}, isFr xs = true → xs.length = 2 ∧ xs.all wh = true
  | [.int n, .int m], _ => ⟨rfl, rfl⟩
theorem dr_len : ∀ {xs : List V}, isDr xs = true → xs.length = 2 ∧ xs.all wh = true
  | [.int n, .int m], _ => ⟨rfl, rfl⟩
theorem pt_len : ∀ {xs : List V}, isPt xs = true → xs.length = 3 ∧ xs.all wh = true
  | [.int x, .int y, .int w], _ => ⟨rfl, rfl⟩
abbrev n_lthing : List Str := ["_law_thing_here"]
theorem mem_at {ns : List Int} {i : Nat} {z : Int} (h : ns[i]? = some z) : V.int z ∈ ns.map V.int := List.mem_map_of_mem (List.mem_of_getElem? h)
end
end K3
namespace K3
open PySem L2 Ur
abbrev sRight : Stmt := top 56
abbrev sLaw : Stmt := top 57
section
variable {P : Program} {w : World} {K :
      PySem.W.Frag} {mg : Str → Option Value} {base : Heap}
abbrev p_law_any : List Str := ["_law_urn_here", "_law_some"]
theorem sc_law_any : FnScope p_law_any p_law_any (defScope sAny) := ⟨rfl, rfl, rfl, by decide +kernel, rfl, by decide +kernel, by decide +kernel⟩
def spAny : Sp := fun vs H Q _ => ∃ (u l : Addr) (xs : List V), vs = [.ref u, .ref l] ∧ H u = some (UrnO u) ∧ H l = some (.lst xs) ∧ 0 < xs.length ∧ xs.length ≤ 1000 ∧ ∀ (x : V) (H' : Hp), x ∈ xs → Same H H' → Q x H'
theorem ok_any {f : Addr} {fd : FuncData} (F : Fun K "_law_any" "_law_any" sAny f fd) (T : Bl mg) (H_law_pull : Has P w K mg base "_law_pull" ["_law_urn_here", "_law_many"] 1 spPull) : FnOk P w K mg base CX0 2 f fd p_law_any spAny := by
  refine F.ok sc_law_any (fun vs H Q E h => ?_) (fun cdv A outer s H vs Q E hr h => ?_)
  · obtain ⟨u, l, xs, rfl, _⟩ := h
    rfl
  · obtain ⟨u, l, xs, rfl, hu, hl, h0, h1, q⟩ := h
    refine ⟨_, (pss_one (ps_ret (pe_ix ix_list (pv 1) (pe_has H_law_pull (hr.mono (by decide)) (by rfl) (pa_cons (pv 0) (pa_cons (pe_callB call_len_seq (by rfl) T.len PySem.boot_len (pa_cons (pv 1) pa_nil)) pa_nil))) (fun _ _ => rfl)))), ?_⟩
    refine ⟨_, rfl, _, rfl, _, rfl, l, xs, rfl, Or.inl (SqL.of hl), u, _, rfl, hu, by omega, by omega, fun r H1 r0 r1 s1 => ?_⟩
    obtain ⟨j, rfl⟩ := Int.eq_ofNat_of_zero_le r0
    have hj : j < xs.length := by omega
    exact ⟨l, xs, _, _, rfl, rfl, SqL.of (s1 _ _ hl), atI_nat (List.getElem?_eq_getElem hj), q _ H1 (List.getElem_mem hj) s1⟩
abbrev p_law_num : List Str := ["_law_urn_here", "_law_high"]
theorem sc_law_num : FnScope p_law_num p_law_num (defScope sNum) := ⟨rfl, rfl, rfl, by decide +kernel, rfl, by decide +kernel, by decide +kernel⟩
def spNum : Sp := fun vs H Q _ => ∃ (u : Addr) (m : Int), vs = [.ref u, .int m] ∧ H u = some (UrnO u) ∧ 0 ≤ m ∧ m ≤ 500000000 ∧ ∀ (r : Int) (H' : Hp), -m ≤ r → r ≤ m → Same H H' → Q (.int r) H'
theorem ok_num {f : Addr} {fd : FuncData} (F : Fun K "_law_num" "_law_num" sNum f fd) (H_law_pull : Has P w K mg base "_law_pull" ["_law_urn_here", "_law_many"] 1 spPull) : FnOk P w K mg base CX0 2 f fd p_law_num spNum := by
  refine F.ok sc_law_num (fun vs H Q E h => ?_) (fun cdv A outer s H vs Q E hr h => ?_)
  · obtain ⟨u, m, rfl, _⟩ := h
    rfl
  · obtain ⟨u, m, rfl, hu, h0, h1, q⟩ := h
    refine ⟨_, (pss_one (ps_ret (pe_op op_sub (pe_has H_law_pull (hr.mono (by decide)) (by rfl) (pa_cons (pv 0) (pa_cons (pe_op op_add (pe_op op_mul pe_int (pv 1)) pe_int) pa_nil))) (pv 1)))), ?_⟩
    refine ⟨_, rfl, _, rfl, _, _, rfl, rfl, Or.inl ⟨by decide, by decide⟩, _, _, rfl, rfl, u, _, rfl, hu, by omega, by omega, fun r H1 r0 r1 s1 => ?_⟩
    exact ⟨_, rfl, _, _, rfl, rfl, q _ H1 (by omega) (by omega) s1⟩
abbrev p_law_laps : List Str := ["_law_script"]
theorem sc_law_laps : FnScope p_law_laps p_law_laps (defScope sLaps) := ⟨rfl, rfl, rfl, by decide +kernel, rfl, by decide +kernel, by decide +kernel⟩
def spLaps (K : PySem.W.Frag) : Sp := fun vs H Q _ => ∃ (a : Addr) (xs : List V), vs = [.ref a] ∧ SqL K H a xs ∧ ∀ n : Int, 2 ≤ n → n ≤ 3 → Q (.int n) H
theorem ok_laps {f : Addr} {fd : FuncData} (F : Fun K "_law_laps" "_law_laps" sLaps f fd) (T : Bl mg) : FnOk P w K mg base CX0 1 f fd p_law_laps (spLaps K) := by
  refine F.ok sc_law_laps (fun vs H Q E h => ?_) (fun cdv A outer s H vs Q E hr h => ?_)
  · obtain ⟨a, xs, rfl, _⟩ := h
    rfl
  · obtain ⟨a, xs, rfl, hS, q⟩ := h
    refine ⟨_, (pss_one (ps_ret (pe_callB (call_max2 rfl) (by rfl) T.max PyProof.Rows.boot_max (pa_cons pe_int (pa_cons (pe_callB (call_min2 rfl) (by rfl) T.min PyProof.Rows.boot_min (pa_cons (pe_callB call_len_seq (by rfl) T.len PySem.boot_len (pa_cons (pv 0) pa_nil)) (pa_cons pe_int pa_nil))) pa_nil))))), ?_⟩
    refine ⟨_, rfl, a, xs, rfl, Or.inl hS, _, _, rfl, _, _, rfl, ?_⟩
    exact q _ (by split <;> split at * <;> omega) (by split <;> split at * <;> omega)
/-! ### what stands in the row -/
/-- the items of a row as far as they are known -/
structure Row (K : PySem.W.Frag) (H : Hp) (zs : List V) : Prop where
  few : zs.length ≤ 5
  its : ∀ y ∈ zs, It K H y
  big : ∀ i, V.int i ∈ zs → i.natAbs < 2 ^ 9000
theorem Row.same {K : PySem.W.Frag} {H H' : Hp} {zs : List V} (s : Same H H') (r : Row K H zs) : Row K H' zs := ⟨r.few, fun y hy => (r.its y hy).same s, r.big⟩
theorem big_of {i : Int} (h : i.natAbs ≤ 10 ^ 13) : i.natAbs < 2 ^ 9000 :=
  Nat.lt_of_le_of_lt h (Nat.lt_of_lt_of_le (by decide : 10 ^ 13 < 2 ^ 50) (Nat.pow_le_pow_right (by decide) (by decide)))
theorem it_int {K : PySem.W.Frag} {H : Hp} (i : Int) : It K H (.int i) := ⟨⟨.int, .base (.int i)⟩, .int i, .int i, rfl, Nat.zero_le _⟩
theorem it_bl {K : PySem.W.Frag} {H : Hp} (b : Bool) : It K H (.bl b) := ⟨⟨.bool, .base (.bl b)⟩, .bool b, .bl b, rfl, Nat.zero_le _⟩
theorem it_non {K : PySem.W.Frag} {H : Hp} : It K H .non := ⟨⟨.non, .base .non⟩, .none, .non, rfl, Nat.zero_le _⟩
theorem it_str {K : PySem.W.Frag} {H : Hp} {x : Str} (h : PyData.canLay0 (.str x) = true) : It K H (.str x) := ⟨⟨.str, .base (.str x)⟩, .str x, .str x, h, Nat.zero_le _⟩
theorem it_tup {K : PySem.W.Frag} {H : Hp} {a : Addr} {ns : List Int} (h : SqT K H a (ns.map V.int)) : It K H (.ref a) :=
  ⟨⟨.tup, tup_kd h⟩, _, dp_ints h, lay_ints ns, by show PyData.depthAll _ + 1 ≤ 8; rw [depth_ints]; decide⟩
theorem row_ints {K : PySem.W.Frag} {H : Hp} {ns : List Int} (hl : ns.length ≤ 5) (hb : ∀ n ∈ ns, n.natAbs ≤ 10 ^ 13) : Row K H (ns.map V.int) := by
  refine ⟨by simpa using hl, fun y hy => ?_, fun i hi => ?_⟩
  · obtain ⟨n, _, rfl⟩ := List.mem_map.mp hy
    exact it_int n
  · obtain ⟨n, hn, e⟩ := List.mem_map.mp hi
    cases e
    exact big_of (hb _ hn)
theorem arg_tup {K : PySem.W.Frag} {H : Hp} {a : Addr} {zs : List V} (h : SqT K H a zs) (r : Row K H zs) : Arg K H (.ref a) .tup zs :=
  ⟨tup_kd h, fun _ => ⟨a, rfl, h, Nat.le_trans r.few (by decide), r.its, r.big⟩⟩
theorem arg_of {K : PySem.W.Frag} {H : Hp} {x : V} {k : Kd} (h : OfKd K H x k) (hk : k ≠ .tup) : Arg K H x k [] := ⟨h, fun e => absurd e hk⟩
theorem ints_of {ys : List V} {m : Int} (h : ∀ (i : Nat) (y : V), ys[i]? = some y → ∃ z : Int, y = .int z ∧ -m ≤ z ∧ z ≤ m) : ∃ ns : List Int, ys = ns.map V.int ∧ ∀ n ∈ ns, -m ≤ n ∧ n ≤ m := by
  induction ys with
  | nil => exact ⟨[], rfl, fun _ h => nomatch h⟩
  | cons y r ih =>
    obtain ⟨ns, rfl, h2⟩ := ih fun i y hi => h (i + 1) y (by simpa using hi)
    obtain ⟨z, rfl, hz⟩ := h 0 y rfl
    refine ⟨z :: ns, rfl, fun n hn => ?_⟩
    rcases List.mem_cons.mp hn with rfl | hn
    · exact hz
    · exact h2 n hn
/-- an int out of a written menu -/
theorem menu {x : V} {l : List Int} {lo hi : Int} (h : x ∈ l.map V.int) (hb : ∀ i ∈ l, lo ≤ i ∧ i ≤ hi) : ∃ i, x = .int i ∧ lo ≤ i ∧ i ≤ hi := by
  obtain ⟨i, h1, rfl⟩ := List.mem_map.mp h
  exact ⟨i, rfl, hb i h1⟩
/-- behind the first test: where the row stands, what is known of its items -/
def Mid1 (K : PySem.W.Frag) (H : Hp) (u : Addr) (h kd fc : Int) (σ : L2.St) (H' : Hp) : Prop := ∃ (D : Addr) (zs : List V) (v w : Option V), σ = [some (.ref u), some (.int h), some (.ref D), some (.int kd), some (.int fc), v, w] ∧ Same H H' ∧ H D = none ∧ H' D = some (.lst zs) ∧ Row K H' zs ∧
  (kd ≠ 0 → ∃ ns : List Int, zs = ns.map V.int ∧ ∀ n ∈ ns, -1000000 ≤ n ∧ n ≤ 1000000)
def Mid2 (K : PySem.W.Frag) (H : Hp) (u : Addr) (h kd fc : Int) (σ : L2.St) (H' : Hp) : Prop := ∃ (D : Addr) (zs : List V) (v w : Option V), σ = [some (.ref u), some (.int h), some (.ref D), some (.int kd), some (.int fc), v, w] ∧ Same H H' ∧ H' D = some (.lst zs) ∧ Row K H' zs
/-! ### thing -/
abbrev n_law_thing : List Str := ["_law_urn_here", "_law_high", "_law_row", "_law_kind", "_law_factor", "_law_step", "_law_number"]
abbrev p_law_thing : List Str := ["_law_urn_here"]
def spThing (K : PySem.W.Frag) : Sp := fun vs H Q _ => ∃ u : Addr, vs = [.ref u] ∧ H u = some (UrnO u) ∧ ∀ (x : V) (k : Kd) (xs : List V) (H' : Hp), Same H H' → Arg K H' x k xs → Q x H'
end
end K3

namespace Ur
open PySem L2
/-! ### calls by name, the names the other way round -/
def HasR (P : Program) (w : World) (K : PySem.W.Frag) (mg : Str → Option Value) (base : Heap) (x : Str) (ps : List Str) (k : Nat) (sp : Sp) : Prop :=
  ∃ f fd, FnOk P w K mg base CX0 k f fd ps sp ∧ mg x = some (.ref f) ∧ PySem.W.keepIn K (.ref f) = true ∧ ∀ (s : Shared) (ws : List Value), K.In s.heap → ws.length = ps.length → BindsTo s fd ⟨[], ps.reverse.zip ws⟩ (ps.zip ws.reverse)
def tHasR (sp : Sp) (tk : TA) : TE := fun σ H Q => tk σ H fun zs H1 => sp zs.reverse H1 Q E0
theorem vals_rev {vs : List V} {us : List Value} (h : Vals vs us) : Vals vs.reverse us.reverse := by
  induction h with
  | nil => exact .nil
  | cons a b ih =>
    rw [List.reverse_cons,
          List.reverse_cons]
    exact ih.append (.cons a .nil)
theorem pe_hasR0 {X : Cx} {x : Str} {p pos : Pos} {tk : TA} {ps : List Str} {k : Nat} {sp : Sp} {kws : List Keyword} (h : HasR X.prog X.w X.K X.mg X.base x ps k sp) (hr : Room k X.A) (hg : Gl X x) (hkw : PK X kws tk)
    (hall : (backToKw pos (keywordEach kws X.env)).all (·.1.isSome) = true := by rfl) (hks : (backToKw pos (keywordEach kws X.env)).filterMap (·.1) = ps.reverse := by rfl) (hdb : (x == ("__debug__" : Str)) = false := by decide)
    (hpl : ((backTo pos (starEach [] X.env)).any (·.1) || (backToKw pos (keywordEach kws X.env)).any (·.1.isNone)) = false := by rfl) : PE X (.Call (.Name x p) [] kws pos) (tHasR sp tk) := by
  obtain ⟨f, fd, G, m, kp, b⟩ := h
  constructor
  intro pins s σ H Q I hq
  apply wpAny_Call_Name_kw
  apply ld_glob I hg m _ hdb
  apply PySem.W.callWith_KW0 (h₀ := X.base) I.ok.mod.kin kp hall _ hpl
  refine thn (hkw.run pos pins s σ H _ I hq) ?_
  rintro ws s2 ⟨zs, H2, I2, rz, q2⟩
  refine ⟨I2.kIn, ?_⟩
  rw [hks]
  have rr := vals_rev rz
  have hl : ws.length = ps.length := by
    rw [← List.length_reverse (as := ws), ← rr.length]
    exact G.len _ _ _ _ q2
  apply wpAny_call
  refine codeAny_mono (G.run X.A X.stack s2 H2 ⟨[], ps.reverse.zip ws⟩ ws.reverse zs.reverse Q E0 hr I2.env0 (b s2 ws I2.kIn hl) rr q2) ?_
  intro res s' hq
  match res, hq with
  | .error e, hq => exact pass0 pins σ H2 s2 e s' I2 hq
  | .ok (.ret u), hq => exact I2.after hq
/-- some arguments by position, the others by name -/
def HasN (P : Program) (w : World) (K : PySem.W.Frag) (mg : Str → Option Value) (base : Heap) (x : Str) (ps : List Str) (n : Nat) (ks : List Str) (k : Nat) (sp : Sp) : Prop :=
  ∃ f fd, FnOk P w K mg base CX0 k f fd ps sp ∧ mg x = some (.ref f) ∧ PySem.W.keepIn K (.ref f) = true ∧ KBn K fd ps n ks (fun us ws => us ++ ws.reverse) (fun vs zs => vs ++ zs.reverse)
theorem pe_hasN {X : Cx} {x : Str} {p pos : Pos} {e : Expr} {es : List Expr} {t tk : TA} {ps ks : List Str} {n k : Nat} {sp : Sp} {kws : List Keyword} (h : HasN X.prog X.w X.K X.mg X.base x ps n ks k sp) (hr : Room k X.A) (hg : Gl X x)
    (ha : PA X (e :: es) t) (hkw : PK X kws tk) (hall : (backToKw pos (keywordEach kws X.env)).all (·.1.isSome)
          = true := by rfl) (hks : (backToKw pos (keywordEach kws X.env)).filterMap (·.1) = ks := by rfl)
    (hdb : (x == ("__debug__" : Str)) = false := by decide) (he : starEach
          (e :: es) X.env = (false, eval e X.env) :: starEach es X.env := by rfl)
    (hpl : ((backTo pos (starEach (e :: es) X.env)).any (·.1) || (backToKw
          pos (keywordEach kws X.env)).any (·.1.isNone)) = false := by rfl) :
    PE X (.Call (.Name x p) (e :: es) kws pos) (tCallN n ks.length sp (fun vs zs => vs ++ zs.reverse) E0 t tk) := by
  obtain ⟨f, fd, G, m, kp, b⟩ := h
  exact pe_callN G hr hg m kp b pass0 ha hkw hall hks hdb he hpl
/-! ### tuples of ints -/
def Tp (K : PySem.W.Frag) (H : Hp) (v : V) (ns : List Int) : Prop := ∃ a, v = .ref a ∧ SqT K H a (ns.map V.int)
theorem Tp.same {K : PySem.W.Frag} {H H' : Hp} {v : V} {ns : List Int} (s : Same H H') (h : Tp K H v ns) : Tp K H' v ns := by
  obtain ⟨a, e, h⟩ := h
  exact ⟨a, e, same_sqT s h⟩
theorem Tp.dp {K : PySem.W.Frag} {H : Hp} {v : V} {ns : List Int} (h : Tp K H v ns) : Dp K H v (.tuple (ns.map PyData.int)) := by
  obtain ⟨a, rfl, h⟩ := h
  exact dp_ints h
def sp1 (K : PySem.W.Frag) (pre : List Int → Prop) (f : List Int → List Int) : Sp := fun vs H Q _ => ∃ (v : V) (a : List Int), vs = [v] ∧ Tp K H v a ∧ pre a ∧ ∀ p H', Same H H' → Tp K H' p (f a) → Q p H'
def sp2 (K : PySem.W.Frag) (pre : List Int → List Int → Prop) (f : List Int → List Int → List Int) : Sp := fun vs H Q _ => ∃ (v w : V) (a b : List Int), vs = [v, w] ∧ Tp K H v a ∧ Tp K H w b ∧ pre a b ∧ ∀ p H', Same H H' → Tp K H' p (f a b) → Q p H'
def sp3 (K : PySem.W.Frag) (pre : List Int → List Int → List Int → Prop) (f : List Int → List Int → List Int → List Int) : Sp := fun vs H Q _ =>
  ∃ (v w z : V) (a b c : List Int), vs = [v, w, z] ∧ Tp K H v a ∧ Tp K H w b ∧ Tp K H z c ∧ pre a b c ∧ ∀ p H', Same H H' → Tp K H' p (f a b c) → Q p H'
end Ur
namespace Ur
open PySem L2
/-! ### texts of lists of such tuples, of ints -/
def tupD (ns : List Int) : PyData := .tuple (ns.map PyData.int)
structure IntsOk (ds : List PyData) (n : Nat) : Prop where
  ls : PyData.leavesShortAll 13 ds = true
  wt : PyData.weightAll ds ≤ n
  sh : PyData.showableAll ds = true
  hd : PyData.hasDictAll ds = false
  dp : PyData.depthAll ds ≤ 1
theorem log40 {n : Nat} (h : n < 10 ^ 12) : n.log2 + 1 ≤ 40 := by
  by_cases z : n = 0
  · subst z; decide
  · have : n.log2 < 40 := (Nat.log2_lt z).mpr (Nat.lt_of_lt_of_le h (by decide))
    omega
theorem ints_ok : ∀ {ns : List Int}, (∀ n ∈ ns, n.natAbs < 10 ^ 12) → IntsOk (ns.map PyData.int) (41 * ns.length)
  | [], _ => ⟨rfl, Nat.le_refl _, rfl, rfl, Nat.zero_le _⟩
  | n :: r, h => by
    have hn := h n List.mem_cons_self
    obtain ⟨a, b, c, d, e⟩ := ints_ok (ns := r) fun m hm => h m (List.mem_cons_of_mem _ hm)
    have l := log40 hn
    refine ⟨?_, ?_, ?_, ?_, ?_⟩
    · show (decide ((PyData.shown (.int n)).length ≤ 13) && PyData.leavesShortAll 13 (r.map PyData.int)) = true
      rw [a, decide_eq_true (PyData.shown_int_le hn)]
      rfl
    · show (if n == 0 then 0 else n.natAbs.log2 + 1) + 1 + PyData.weightAll (r.map PyData.int) ≤ 41 * (r.length + 1)
      split <;> omega
    · show (decide (n.natAbs.log2 < 1920) && PyData.showableAll (r.map PyData.int)) = true
      rw [c, decide_eq_true (by omega)]
      rfl
    · show (false || PyData.hasDictAll (r.map PyData.int)) = false
      rw [d]
      rfl
    · show max 0 (PyData.depthAll (r.map PyData.int)) ≤ 1
      omega
theorem tups_ok : ∀ {nss : List (List Int)}, (∀ ns ∈ nss, ns.length ≤ 10 ∧ ∀ n ∈ ns, n.natAbs < 10 ^ 12) → IntsOk (nss.map tupD) (411 * nss.length)
  | [], _ => ⟨rfl, Nat.le_refl _, rfl, rfl, Nat.zero_le _⟩
  | ns :: r, h => by
    obtain ⟨hl, hn⟩ := h ns List.mem_cons_self
    obtain ⟨a, b, c, d, e⟩ := tups_ok (nss := r) fun m hm => h m (List.mem_cons_of_mem _ hm)
    obtain ⟨a', b', c', d', e'⟩ := ints_ok hn
    refine ⟨?_, ?_, ?_, ?_, ?_⟩
    · show (PyData.leavesShortAll 13 (ns.map PyData.int) && PyData.leavesShortAll 13 (r.map tupD)) = true
      rw [a, a']
      rfl
    · show PyData.weightAll (ns.map PyData.int) + 1 + PyData.weightAll (r.map tupD) ≤ 411 * (r.length + 1)
      omega
    · show (PyData.showableAll (ns.map PyData.int) && PyData.showableAll (r.map tupD)) = true
      rw [c, c']
      rfl
    · show (PyData.hasDictAll (ns.map PyData.int) || PyData.hasDictAll (r.map tupD)) = false
      rw [d, d']
      rfl
    · show max (PyData.depthAll (ns.map PyData.int) + 1) (PyData.depthAll (r.map tupD)) ≤ 1
      have := depth_ints ns
      omega
/-- what repr asks of a list -/
theorem rep_of {K : PySem.W.Frag} {H : Hp} {a : Addr} {ds : List PyData} {n : Nat} {Q : VK} (hd : Dp K H (.ref a) (.list ds)) (o : IntsOk ds n) (hn : n ≤ 1000000) (q : Q (.str (PyData.shown (.list ds))) H) : rRepr K [.ref a] H Q :=
  ⟨a, .list ds, rfl, hd, o.sh, o.hd, PyData.shown_fits (B := 13) (by decide) (by decide) o.ls (Nat.le_trans o.wt (Nat.le_trans hn (by decide))), by show PyData.depthAll ds + 1 ≤ 60; have := o.dp; omega, q⟩
theorem dpAll_tps {K : PySem.W.Frag} {H : Hp} : ∀ {vs : List V} {nss : List (List Int)}, Paired (Tp K H) vs nss → DpAll K H vs (nss.map tupD)
  | _, _, .nil => .nil
  | _, _, .cons h t => .cons h.dp (dpAll_tps t)
theorem dp_list {K : PySem.W.Frag} {H : Hp} {a : Addr} {vs : List V} {ds : List PyData} (h : H a = some (.lst vs)) (hd : DpAll K H vs ds) : Dp K H (.ref a) (.list ds) := .lst (SqL.of h) hd
theorem fnd_r {K : PySem.W.Frag} {mg : Str → Option Value} {x : Str} {ps : List Str} {P : Program} {w : World} {base : Heap} {k : Nat} {sp : Sp} {f : Addr} {fd : FuncData}
    (G : FnOk P w K mg base CX0 k f fd ps sp) (m : mg x = some (.ref f)) (kp : PySem.W.keepIn K (.ref f) = true)
    (b : ∀ (s : Shared) (ws : List Value), K.In s.heap → ws.length = ps.length → BindsTo s fd ⟨[], ps.reverse.zip ws⟩ (ps.zip ws.reverse)) : HasR P w K mg base x ps k sp := ⟨f, fd, G, m, kp, b⟩
end Ur

namespace K3
open PySem L2 Ur
/-! ### points as lists of three ints, plain -/
theorem thin_eq {ns : List Int} (h : 0 < gAll ns) : thin ns = ns.map fun n => n / (gAll ns : Int) := by
  unfold thin
  split
  · have : gAll ns = 1 := by omega
    rw [this]
    show ns = ns.map fun n => n / 1
    simp
  · rfl
theorem gAll_2 (a b : Int) : gAll [a, b] = Nat.gcd a.natAbs b.natAbs := by
  show Nat.gcd (Nat.gcd 0 a.natAbs) b.natAbs = _
  rw [Nat.gcd_zero_left]
theorem gAll_3 (a b c : Int) : gAll [a, b, c] = Nat.gcd (Nat.gcd a.natAbs b.natAbs) c.natAbs := by
  show Nat.gcd (Nat.gcd (Nat.gcd 0 a.natAbs) b.natAbs) c.natAbs = _
  rw [Nat.gcd_zero_left]
theorem g3_pos {x y w : Int} (h : 0 < w) : 0 < gAll [x, y, w] := by
  rw [gAll_3]
  exact Nat.gcd_pos_of_pos_right _ (by omega)
theorem g2_pos {x w : Int} (h : 0 < w) : 0 < gAll [x, w] := by
  rw [gAll_2]
  exact Nat.gcd_pos_of_pos_right _ (by omega)
theorem ex_div {g : Nat} {x : Int} (h : g ∣ x.natAbs) : ∃ q : Int, x = (g : Int) * q := Int.ofNat_dvd_left.mpr h
/-- thin, by what it is multiplied with -/
theorem thin3 {x y w : Int} (h : 0 < w) : ∃ (g p q r : Int), 0 < g ∧ x = g * p ∧ y = g * q ∧ w = g * r ∧ thin [x, y, w] = [p, q, r] ∧ Nat.gcd (Nat.gcd p.natAbs q.natAbs) r.natAbs = 1 := by
  have hg := g3_pos (x := x) (y := y) h
  have e := thin_eq hg
  obtain ⟨p, hp⟩ := ex_div (g := gAll [x, y, w]) (x := x) (by rw [gAll_3]; exact Nat.dvd_trans (Nat.gcd_dvd_left _ _) (Nat.gcd_dvd_left _ _))
  obtain ⟨q, hq⟩ := ex_div (g := gAll [x, y, w]) (x := y) (by rw [gAll_3]; exact Nat.dvd_trans (Nat.gcd_dvd_left _ _) (Nat.gcd_dvd_right _ _))
  obtain ⟨r, hr⟩ := ex_div (g := gAll [x, y, w]) (x := w) (by rw [gAll_3]; exact Nat.gcd_dvd_right _ _)
  have h3 := gAll_3 x y w
  generalize gAll [x, y, w] = g at *
  have hg' : (g : Int) ≠ 0 := by omega
  refine ⟨g, p, q, r, by omega, hp, hq, hr, ?_, ?_⟩
  · rw [e]
    show [x / (g : Int), y / (g : Int), w / (g : Int)] = _
    rw [hp, hq, hr, Int.mul_ediv_cancel_left _ hg', Int.mul_ediv_cancel_left _ hg', Int.mul_ediv_cancel_left _ hg']
  · rw [hp, hq, hr, Int.natAbs_mul, Int.natAbs_mul, Int.natAbs_mul, Int.natAbs_natCast, Nat.gcd_mul_left, Nat.gcd_mul_left] at h3
    have : g * 1 = g * Nat.gcd (Nat.gcd p.natAbs q.natAbs) r.natAbs := by rw [Nat.mul_one]; exact h3
    exact (Nat.eq_of_mul_eq_mul_left hg this).symm
theorem thin2 {x w : Int} (h : 0 < w) : ∃ (g p r : Int), 0 < g ∧ x = g * p ∧ w = g * r ∧ thin [x, w] = [p, r] ∧ Nat.gcd p.natAbs r.natAbs = 1 := by
  have hg := g2_pos (x := x) h
  have e := thin_eq hg
  obtain ⟨p, hp⟩ := ex_div (g := gAll [x, w]) (x := x) (by rw [gAll_2]; exact Nat.gcd_dvd_left _ _)
  obtain ⟨r, hr⟩ := ex_div (g := gAll [x, w]) (x := w) (by rw [gAll_2]; exact Nat.gcd_dvd_right _ _)
  have h3 := gAll_2 x w
  generalize gAll [x, w] = g at *
  have hg' : (g : Int) ≠ 0 := by omega
  refine ⟨g, p, r, by omega, hp, hr, ?_, ?_⟩
  · rw [e]
    show [x / (g : Int), w / (g : Int)] = _
    rw [hp, hr, Int.mul_ediv_cancel_left _ hg', Int.mul_ediv_cancel_left _ hg']
  · rw [hp, hr, Int.natAbs_mul, Int.natAbs_mul, Int.natAbs_natCast, Nat.gcd_mul_left] at h3
    have : g * 1 = g * Nat.gcd p.natAbs r.natAbs := by rw [Nat.mul_one]; exact h3
    exact (Nat.eq_of_mul_eq_mul_left hg this).symm
theorem pos_of {g r : Int} (hg : 0 < g) (h : 0 < g * r) : 0 < r := Int.pos_of_mul_pos_right h hg
theorem abs_le {g p : Int} {n : Nat} (hg : 0 < g) (h : (g * p).natAbs ≤ n) : p.natAbs ≤ n := by
  rw [Int.natAbs_mul] at h
  have : 1 * p.natAbs ≤ g.natAbs * p.natAbs := Nat.mul_le_mul_right _ (by omega)
  omega
/-- a point's three numbers: reduced, the last above 0, none above n -/
structure PtL (n : Nat) (a : List Int) (x y w : Int) : Prop where
  eq : a = [x, y, w]
  pos : 0 < w
  red : Nat.gcd (Nat.gcd x.natAbs y.natAbs) w.natAbs = 1
  bx : x.natAbs ≤ n
  bby : y.natAbs ≤ n
  bw : w.natAbs ≤ n
structure FrL (n : Nat) (a : List Int) (t b : Int) : Prop where
  eq : a = [t, b]
  pos : 0 < b
  red : Nat.gcd t.natAbs b.natAbs = 1
  bt : t.natAbs ≤ n
  bb : b.natAbs ≤ n
theorem pt_thin {x y w : Int} {n : Nat} (h : 0 < w) (hx : x.natAbs ≤ n) (hy : y.natAbs ≤ n) (hw : w.natAbs ≤ n) : ∃ (g p q r : Int), 0 < g ∧ x = g * p ∧ y = g * q ∧ w = g * r ∧ PtL n (thin [x, y, w]) p q r := by
  obtain ⟨g, p, q, r, g0, e1, e2, e3, e4, e5⟩ := thin3 (x := x) (y := y) h
  exact ⟨g, p, q, r, g0, e1, e2, e3, ⟨e4, pos_of g0 (e3 ▸ h), e5, abs_le g0 (e1 ▸ hx), abs_le g0 (e2 ▸ hy), abs_le g0 (e3 ▸ hw)⟩⟩
theorem fr_thin {x w : Int} {n : Nat} (h : 0 < w) (hx : x.natAbs ≤ n) (hw : w.natAbs ≤ n) : ∃ (g p r : Int), 0 < g ∧ x = g * p ∧ w = g * r ∧ FrL n (thin [x, w]) p r := by
  obtain ⟨g, p, r, g0, e1, e3, e4, e5⟩ := thin2 (x := x) h
  exact ⟨g, p, r, g0, e1, e3, ⟨e4, pos_of g0 (e3 ▸ h), e5, abs_le g0 (e1 ▸ hx), abs_le g0 (e3 ▸ hw)⟩⟩
/-- a point times a number above 0, made thin, is the point -/
theorem thin_mul {x y w k : Int} (hk : 0 < k) (hw : 0 < w) (h : Nat.gcd (Nat.gcd x.natAbs y.natAbs) w.natAbs = 1) : thin [k * x, k * y, k * w] = [x, y, w] := by
  have hg : gAll [k * x, k * y, k * w] = k.natAbs := by
    rw [gAll_3, Int.natAbs_mul, Int.natAbs_mul, Int.natAbs_mul, Nat.gcd_mul_left, Nat.gcd_mul_left, h, Nat.mul_one]
  rw [thin_eq (by rw [hg]; omega), hg]
  have ek : ((k.natAbs : Nat) : Int) = k := by omega
  have k0 : k ≠ 0 := by omega
  rw [ek]
  show [k * x / k, k * y / k, k * w / k] = _
  rw [Int.mul_ediv_cancel_left _ k0, Int.mul_ediv_cancel_left _ k0, Int.mul_ediv_cancel_left _ k0]
def sumL : List Int → List Int → List Int
  | [x, y, w], [u, v, z] => thin [x * z + u * w, y * z + v * w, w * z]
  | _, _ => []
def wayL : List Int → List Int → List Int
  | [x, y, w], [u, v, z] => thin [u * w - x * z, v * w - y * z, w * z]
  | _, _ => []
def byL : List Int → List Int → List Int
  | [x, y, w], [n, m] => thin [x * n, y * n, w * m]
  | _, _ => []
def innL : List Int → List Int → List Int
  | [x, y, w], [u, v, z] => thin [x * u + y * v, w * z]
  | _, _ => []
def crsL : List Int → List Int → List Int
  | [x, y, w], [u, v, z] => thin [x * v - y * u, w * z]
  | _, _ => []
def qtrL : List Int → List Int
  | [x, y, w] => [-y, x, w]
  | _ => []
def sgn (n : Int) : Int := if 0 < n then 1 else if n < 0 then -1 else 0
def sidL : List Int → List Int → List Int → Int
  | [x, y, w], [u, v, z], [p, q, r] => sgn ((x * v - u * y) * r - (v * w - y * z) * p - (x * z - u * w) * q)
  | _, _, _ => 0
theorem mulb {x y : Int} {n m : Nat} (hx : x.natAbs ≤ n) (hy : y.natAbs ≤ m) : (x * y).natAbs ≤ n * m := by
  rw [Int.natAbs_mul]
  exact Nat.mul_le_mul hx hy
theorem addb {x y : Int} {n m : Nat} (hx : x.natAbs ≤ n) (hy : y.natAbs ≤ m) : (x + y).natAbs ≤ n + m := by omega
theorem subb {x y : Int} {n m : Nat} (hx : x.natAbs ≤ n) (hy : y.natAbs ≤ m) : (x - y).natAbs ≤ n + m := by omega
theorem pt_sum {a b : List Int} {x y w u v z : Int} {n m : Nat} (A : PtL n a x y w) (B : PtL m b u v z) : ∃ (g p q r : Int), 0 < g ∧ x * z + u * w = g * p ∧ y * z + v * w = g * q ∧ w * z = g * r ∧ PtL (n * m + m * n) (sumL a b) p q r := by
  have ea := A.eq
  have eb := B.eq
  subst ea eb
  exact pt_thin (Int.mul_pos A.pos B.pos) (addb (mulb A.bx B.bw) (mulb B.bx A.bw)) (addb (mulb A.bby B.bw) (mulb B.bby A.bw)) (Nat.le_trans (mulb A.bw B.bw) (Nat.le_add_right _ _))
theorem pt_way {a b : List Int} {x y w u v z : Int} {n m : Nat} (A : PtL n a x y w) (B : PtL m b u v z) : ∃ (g p q r : Int), 0 < g ∧ u * w - x * z = g * p ∧ v * w - y * z = g * q ∧ w * z = g * r ∧ PtL (m * n + n * m) (wayL a b) p q r := by
  have ea := A.eq
  have eb := B.eq
  subst ea eb
  exact pt_thin (Int.mul_pos A.pos B.pos) (subb (mulb B.bx A.bw) (mulb A.bx B.bw)) (subb (mulb B.bby A.bw) (mulb A.bby B.bw)) (Nat.le_trans (mulb A.bw B.bw) (by omega))
theorem pt_by {a b : List Int} {x y w n m : Int} {i j : Nat} (A : PtL i a x y w) (B : FrL j b n m) : ∃ (g p q r : Int), 0 < g ∧ x * n = g * p ∧ y * n = g * q ∧ w * m = g * r ∧ PtL (i * j) (byL a b) p q r := by
  have ea := A.eq
  have eb := B.eq
  subst ea eb
  exact pt_thin (Int.mul_pos A.pos B.pos) (mulb A.bx B.bt) (mulb A.bby B.bt) (mulb A.bw B.bb)
theorem pt_qtr {a : List Int} {x y w : Int} {n : Nat} (A : PtL n a x y w) : PtL n (qtrL a) (-y) x w := by
  have ea := A.eq
  subst ea
  refine ⟨rfl, A.pos, ?_, by rw [Int.natAbs_neg]; exact A.bby, A.bx, A.bw⟩
  rw [Int.natAbs_neg, Nat.gcd_comm y.natAbs x.natAbs]
  exact A.red
theorem fr_inn {a b : List Int} {x y w u v z : Int} {n m : Nat} (A : PtL n a x y w) (B : PtL m b u v z) : ∃ (g p r : Int), 0 < g ∧ x * u + y * v = g * p ∧ w * z = g * r ∧ FrL (n * m + n * m) (innL a b) p r := by
  have ea := A.eq
  have eb := B.eq
  subst ea eb
  exact fr_thin (Int.mul_pos A.pos B.pos) (addb (mulb A.bx B.bx) (mulb A.bby B.bby)) (Nat.le_trans (mulb A.bw B.bw) (Nat.le_add_right _ _))
theorem fr_crs {a b : List Int} {x y w u v z : Int} {n m : Nat} (A : PtL n a x y w) (B : PtL m b u v z) : ∃ (g p r : Int), 0 < g ∧ x * v - y * u = g * p ∧ w * z = g * r ∧ FrL (n * m + n * m) (crsL a b) p r := by
  have ea := A.eq
  have eb := B.eq
  subst ea eb
  exact fr_thin (Int.mul_pos A.pos B.pos) (subb (mulb A.bx B.bby) (mulb A.bby B.bx)) (Nat.le_trans (mulb A.bw B.bw) (Nat.le_add_right _ _))
/-- there and back -/
theorem way_back {a b : List Int} {x y w u v z : Int} {n m : Nat} (A : PtL n a x y w) (B : PtL m b u v z) : sumL (wayL b a) b = a := by
  obtain ⟨g, p, q, r, g0, e1, e2, e3, C⟩ := pt_way B A
  have ea := A.eq
  have eb := B.eq
  subst ea eb
  rw [C.eq]
  show thin [p * z + u * r, q * z + v * r, r * z] = [x, y, w]
  have f1 : g * (p * z + u * r) = z * z * x := by grind
  have f2 : g * (q * z + v * r) = z * z * y := by grind
  have f3 : g * (r * z) = z * z * w := by grind
  have rz : 0 < r * z := Int.mul_pos C.pos B.pos
  obtain ⟨h, p', q', r', h0, i1, i2, i3, i4, i5⟩ := thin3 (x := p * z + u * r) (y := q * z + v * r) rz
  rw [i4]
  have k0 : 0 < g * h := Int.mul_pos g0 h0
  have j1 := thin_mul (x := p') (y := q') (w := r') k0 (pos_of h0 (i3 ▸ rz)) i5
  have j2 := thin_mul (k := z * z) (Int.mul_pos B.pos B.pos) A.pos A.red
  rw [← j1, ← j2, ← f1, ← f2, ← f3, i1, i2, i3, Int.mul_assoc, Int.mul_assoc, Int.mul_assoc]
theorem sgn_pos {k n : Int} (hk : 0 < k) : sgn (k * n) = sgn n := by
  unfold sgn
  by_cases h1 : 0 < n
  · rw [if_pos h1, if_pos (Int.mul_pos hk h1)]
  · by_cases h2 : n < 0
    · have : k * n < 0 := Int.mul_neg_of_pos_of_neg hk h2
      rw [if_neg h1, if_pos h2, if_neg (by omega), if_pos this]
    · have : n = 0 := by omega
      subst this
      rw [Int.mul_zero]
theorem sgn_neg (n : Int) : sgn (-n) = -sgn n := by
  unfold sgn
  split <;> split <;> (try split) <;> (try split) <;> omega
theorem det_id (x y w u v z p q r : Int) : (u * w - x * z) * (q * w - y * r) - (v * w - y * z) * (p * w - x * r) = w * ((x * v - u * y) * r - (v * w - y * z) * p - (x * z - u * w) * q) := by grind
theorem det_g {g1 g2 g t p1 q1 p2 q2 : Int} (h : p1 * q2 - q1 * p2 = g * t) : (g1 * g2 * g) * t = (g1 * p1) * (g2 * q2) - (g1 * q1) * (g2 * p2) := by grind
/-- the side by the cross product of the two ways -/
theorem side_is {a b c : List Int} {x y w u v z p q r : Int} {n m l : Nat} (A : PtL n a x y w) (B : PtL m b u v z) (C : PtL l c p q r) : ∃ t e : Int, crsL (wayL a b) (wayL a c) = [t, e] ∧ sgn t = sidL a b c := by
  obtain ⟨g1, p1, q1, r1, g10, d1, d2, d3, D⟩ := pt_way A B
  obtain ⟨g2, p2, q2, r2, g20, e1, e2, e3, E⟩ := pt_way A C
  obtain ⟨g, t, e, g0, f1, f2, F⟩ := fr_crs D E
  refine ⟨t, e, F.eq, ?_⟩
  have ea := A.eq
  have eb := B.eq
  have ec := C.eq
  subst ea eb ec
  show sgn t = sgn ((x * v - u * y) * r - (v * w - y * z) * p - (x * z - u * w) * q)
  have hh : (g1 * g2 * g) * t = w * ((x * v - u * y) * r - (v * w - y * z) * p - (x * z - u * w) * q) := by
    rw [det_g f1, ← d1, ← d2, ← e1, ← e2]
    exact det_id x y w u v z p q r
  rw [← sgn_pos (Int.mul_pos (Int.mul_pos g10 g20) g0), hh, sgn_pos A.pos]
theorem side_swap {a b c : List Int} {x y w u v z p q r : Int} {n m l : Nat} (A : PtL n a x y w) (B : PtL m b u v z) (C : PtL l c p q r) : sidL b a c = -sidL a b c ∧ sidL a c b = -sidL a b c := by
  have ea := A.eq
  have eb := B.eq
  have ec := C.eq
  subst ea eb ec
  constructor
  · show sgn _ = -sgn _
    rw [← sgn_neg]
    congr 1
    grind
  · show sgn _ = -sgn _
    rw [← sgn_neg]
    congr 1
    grind
end K3

namespace K3
open PySem L2 Ur
abbrev sSign : Stmt := top 6
abbrev sRatio : Stmt := top 8
abbrev sPlace : Stmt := top 10
abbrev sPSum : Stmt := top 11
abbrev sWayTo : Stmt := top 12
abbrev sPTimes : Stmt := top 13
abbrev sPBetw : Stmt := top 14
abbrev sInnerOf : Stmt := top 15
abbrev sCrossOf : Stmt := top 16
abbrev sQuarterOf : Stmt := top 17
abbrev sSideOf : Stmt := top 18
abbrev sLine : Stmt := top 19
abbrev sChkF : Stmt := top 26
abbrev sChkP : Stmt := top 27
def spN3 (K : PySem.W.Frag) : Sp := fun vs H Q _ => ∃ x y w : Int, vs = [.int x, .int y, .int w] ∧ 0 < w ∧ x.natAbs ≤ 2 ^ 100 ∧ y.natAbs ≤ 2 ^ 100 ∧ w.natAbs ≤ 2 ^ 100 ∧ ∀ p H', Same H H' → Tp K H' p (thin [x, y, w]) → Q p H'
def spN2 (K : PySem.W.Frag) : Sp := fun vs H Q _ => ∃ x w : Int, vs = [.int x, .int w] ∧ 0 < w ∧ x.natAbs ≤ 2 ^ 100 ∧ w.natAbs ≤ 2 ^ 100 ∧ ∀ p H', Same H H' → Tp K H' p (thin [x, w]) → Q p H'
def spP1 (K : PySem.W.Frag) (f : List Int → List Int) : Sp := fun vs H Q _ => ∃ (v : V) (a : List Int) (x y w : Int) (n : Nat), vs = [v] ∧ Tp K H v a ∧ PtL n a x y w ∧ n ≤ 2 ^ 40 ∧ ∀ p H', Same H H' → Tp K H' p (f a) → Q p H'
def spP2 (K : PySem.W.Frag) (f : List Int → List Int → List Int) : Sp := fun vs H Q _ => ∃ (v v' : V) (a b : List Int) (x y w x' y' w' : Int) (n m : Nat), vs = [v, v'] ∧ Tp K H v a ∧ Tp K H v' b ∧ PtL n a x y w ∧ PtL m b x' y' w' ∧ n ≤ 2 ^ 40 ∧ m ≤ 2 ^ 40 ∧ ∀ p H', Same H H' → Tp K H' p (f a b) → Q p H'
def spPF (K : PySem.W.Frag) (f : List Int → List Int → List Int) : Sp := fun vs H Q _ => ∃ (v v' : V) (a b : List Int) (x y w t e : Int) (n m : Nat), vs = [v, v'] ∧ Tp K H v a ∧ Tp K H v' b ∧ PtL n a x y w ∧ FrL m b t e ∧ n ≤ 2 ^ 40 ∧ m ≤ 2 ^ 40 ∧ ∀ p H', Same H H' → Tp K H' p (f a b) → Q p H'
def betL (a b f : List Int) : List Int := sumL a (byL (wayL a b) f)
/-- between: the numbers are small -/
def spPPF (K : PySem.W.Frag) : Sp := fun vs H Q _ => ∃ (v v' v'' : V) (a b c : List Int) (x y w x' y' w' t e : Int), vs = [v, v', v''] ∧ Tp K H v a ∧ Tp K H v' b ∧ Tp K H v'' c ∧ PtL 100 a x y w ∧ PtL 100 b x' y' w' ∧ FrL 100 c t e ∧ ∀ p H', Same H H' → Tp K H' p (betL a b c) → Q p H'
def spSide (K : PySem.W.Frag) : Sp := fun vs H Q _ => ∃ (v v' v'' : V) (a b c : List Int) (x y w x' y' w' p q r : Int) (n m l : Nat), vs = [v, v', v''] ∧ Tp K H v a ∧ Tp K H v' b ∧ Tp K H v'' c ∧ PtL n a x y w ∧ PtL m b x' y' w' ∧ PtL l c p q r ∧ n ≤ 2 ^ 30 ∧ m ≤ 2 ^ 30 ∧ l ≤ 2 ^ 30 ∧
  ∀ H', Same H H' → Q (.int (sidL a b c)) H'
theorem b100 {n : Nat} (h : n ≤ 2 ^ 100) : n < 2 ^ 9000 := Nat.lt_of_le_of_lt h (Nat.pow_lt_pow_right (by decide) (by decide))
theorem le100 {n m : Nat} (h : n ≤ m) (hm : m ≤ 2 ^ 90) : n ≤ 2 ^ 100 := Nat.le_trans h (Nat.le_trans hm (Nat.pow_le_pow_right (by decide) (by decide)))
theorem sq80 {n m : Nat} (h1 : n ≤ 2 ^ 40) (h2 : m ≤ 2 ^ 40) : n * m ≤ 2 ^ 80 := by
  have := Nat.mul_le_mul h1 h2
  rwa [← Nat.pow_add] at this
theorem two80 {n m : Nat} (h1 : n ≤ 2 ^ 40) (h2 : m ≤ 2 ^ 40) : n * m + m * n ≤ 2 ^ 90 := by
  have a := sq80 h1 h2
  have b := sq80 h2 h1
  have c : 2 ^ 80 + 2 ^ 80 ≤ 2 ^ 90 := by decide
  omega
section
variable {P : Program} {w : World} {K :
      PySem.W.Frag} {mg : Str → Option Value} {base : Heap}
abbrev p_n : List Str := ["number"]
theorem sc_sign : FnScope p_n p_n (defScope sSign) := ⟨rfl, rfl, rfl, by decide +kernel, rfl, by decide +kernel, by decide +kernel⟩
def spSgn : Sp := fun vs H Q _ => ∃ n : Int, vs = [.int n] ∧ Q (.int (sgn n)) H
theorem ok_sign {f : Addr} {fd : FuncData} (F : Fun K "sign_of" "sign_of" sSign f fd) : FnOk P w K mg base CX0 1 f fd p_n spSgn := by
  refine F.ok sc_sign (fun vs H Q E h => ?_) (fun cdv A outer s H vs Q E hr h => ?_)
  · obtain ⟨n, rfl, _⟩ := h
    rfl
  · obtain ⟨n, rfl, q⟩ := h
    refine ⟨_, (pss_cons (ps_if (pt_cmpR op_gt (pv 0) pe_int (nomark _)) (pss_one (ps_ret pe_int)) pss_nil)
      (pss_one (ps_ret (pe_ifExp (pt_cmpR op_lt (pv 0) pe_int (nomark _)) (pe_un un_neg pe_int) pe_int)))), ?_⟩
    unfold sgn at q
    refine ⟨_, rfl, _, _,
          rfl, rfl, _, rfl, ?_⟩
    refine ite2 (fun c
          => ?_) (fun c => ?_)
    · rw [if_pos (of_decide_eq_true c)] at q
      exact q
    · have c' : ¬ 0 < n := fun z => c (decide_eq_true z)
      rw [if_neg c'] at q
      refine ⟨_, rfl, _, _,
            rfl, rfl, _, rfl, ?_⟩
      refine ite2 (fun d => ?_) (fun d => ?_)
      · rw [if_pos (of_decide_eq_true d)] at q
        exact ⟨_, rfl, q⟩
      · rw [if_neg fun z => d (decide_eq_true z)] at q
        exact q
abbrev n_ratio : List Str := ["n", "m", "divisor"]
abbrev p_ratio : List Str := ["n", "m"]
theorem sc_ratio : FnScope n_ratio p_ratio (defScope sRatio) := ⟨rfl, rfl, rfl, by decide +kernel, rfl, by decide +kernel, by decide +kernel⟩
theorem ok_ratio {f : Addr} {fd : FuncData} (F : Fun K "ratio" "ratio" sRatio f fd) (mG : mg "gcd" = some (.builtin "math.gcd")) : FnOk P w K mg base CX0 1 f fd p_ratio (spN2 K) := by
  refine F.ok sc_ratio (fun vs H Q E h => ?_) (fun cdv A outer s H vs Q E hr h => ?_)
  · obtain ⟨x, w, rfl, _⟩ := h
    rfl
  · obtain ⟨x, w, rfl, w0, bx, bw, q⟩ := h
    refine ⟨_, (pss_cons (ps_set (i := 2) sc_ratio.nd rfl (Or.inl rfl) (pe_callBfun cr_gcd (by rfl) mG (pa_cons (pv 0) (pa_cons (pv 1) pa_nil))))
      (pss_cons (ps_if (pt_cmpR op_lt (pv 1) pe_int (nomark _)) (pss_one (ps_set (i := 2) sc_ratio.nd rfl (Or.inl rfl) (pe_un un_neg (pv 2)))) pss_nil)
      (pss_one (ps_ret (pe_tup (pa_cons (pe_op op_fdivW (pv 0) (pv 2)) (pa_cons (pe_op op_fdivW (pv 1) (pv 2)) pa_nil))))))), ?_⟩
    refine ⟨_, rfl, _, rfl, x, w, rfl, ?_⟩
    refine ⟨_, rfl, _, _,
          rfl, rfl, _, rfl, ?_⟩
    refine ite2 (fun c => absurd (of_decide_eq_true c) (by omega)) (fun _ => ?_)
    have g0 := g2_pos (x := x) w0
    have gw : gAll [x, w] < 2 ^ 9000 := by
      rw [gAll_2]
      exact Nat.lt_of_le_of_lt (Nat.le_of_dvd (by omega) (Nat.gcd_dvd_right _ _)) (b100 bw)
    rw [gAll_2] at g0 gw
    have cd : CDivW x ((Nat.gcd x.natAbs w.natAbs : Nat) : Int) := wide_div (b := 9000) (by omega) (by simpa using gw) (by decide) (by decide)
    refine ⟨_, rfl, _, rfl, _, _, rfl, rfl, ⟨cd.1, cd.2⟩, _, rfl, _, rfl, _, _, rfl, rfl, ⟨cd.1, cd.2⟩, by show 2 ≤ sizeLine; decide, fun p hp => ?_⟩
    refine q _ _ (same_new hp) ⟨p, rfl, ?_⟩
    rw [thin_eq (g2_pos w0), gAll_2]
    exact SqT.of upd_same
abbrev n_place : List Str := ["x", "y", "w", "divisor"]
abbrev p_place : List Str := ["x", "y", "w"]
theorem sc_place : FnScope n_place p_place (defScope sPlace) := ⟨rfl, rfl, rfl, by decide +kernel, rfl, by decide +kernel, by decide +kernel⟩
theorem ok_place {f : Addr} {fd : FuncData} (F : Fun K "place" "place" sPlace f fd) (mG : mg "gcd" = some (.builtin "math.gcd")) : FnOk P w K mg base CX0 1 f fd p_place (spN3 K) := by
  refine F.ok sc_place (fun vs H Q E h => ?_) (fun cdv A outer s H vs Q E hr h => ?_)
  · obtain ⟨x, y, w, rfl, _⟩ := h
    rfl
  · obtain ⟨x, y, w, rfl, w0, bx, bby, bw, q⟩ := h
    refine ⟨_, (pss_cons (ps_set (i := 3) sc_place.nd rfl (Or.inl rfl) (pe_callBfun cr_gcd (by rfl) mG (pa_cons (pe_callBfun cr_gcd (by rfl) mG (pa_cons (pv 0) (pa_cons (pv 1) pa_nil))) (pa_cons (pv 2) pa_nil))))
      (pss_one (ps_ret (pe_tup (pa_cons (pe_op op_fdivW (pv 0) (pv 3)) (pa_cons (pe_op op_fdivW (pv 1) (pv 3)) (pa_cons (pe_op op_fdivW (pv 2) (pv 3)) pa_nil))))))), ?_⟩
    refine ⟨_, rfl, _, rfl, x, y, rfl, _, rfl, _, _, rfl, ?_⟩
    have g0 := g3_pos (x := x) (y := y) w0
    have gw : gAll [x, y, w] < 2 ^ 9000 := by
      rw [gAll_3]
      exact Nat.lt_of_le_of_lt (Nat.le_of_dvd (by omega) (Nat.gcd_dvd_right _ _)) (b100 bw)
    have eg : Nat.gcd (Int.natAbs ((Nat.gcd x.natAbs y.natAbs : Nat) : Int)) w.natAbs = gAll [x, y, w] := by rw [gAll_3, Int.natAbs_natCast]
    rw [eg]
    have cd : CDivW x ((gAll [x, y, w] : Nat) : Int) := wide_div (b := 9000) (by omega) (by simpa using gw) (by decide) (by decide)
    refine ⟨_, rfl, _, rfl, _, _, rfl, rfl, ⟨cd.1, cd.2⟩, _, rfl, _, rfl, _, _, rfl, rfl, ⟨cd.1, cd.2⟩, _, rfl, _, rfl, _, _, rfl, rfl, ⟨cd.1, cd.2⟩, by show 3 ≤ sizeLine; decide, fun p hp => ?_⟩
    refine q _ _ (same_new hp) ⟨p, rfl, ?_⟩
    rw [thin_eq (g3_pos w0)]
    exact SqT.of upd_same
theorem lt64 {x : Int} {n : Nat} (h : x.natAbs ≤ n) (hn : n ≤ 2 ^ 40) : -(2 ^ 64) < x ∧ x < 2 ^ 64 := by omega
abbrev n_psum : List Str := ["point", "other", "x", "y", "w", "u", "v", "z"]
abbrev p_po : List Str := ["point", "other"]
theorem sc_psum : FnScope n_psum p_po (defScope sPSum) := ⟨rfl, rfl, rfl, by decide +kernel, rfl, by decide +kernel, by decide +kernel⟩
theorem ok_psum {f : Addr} {fd : FuncData} (F : Fun K "place_sum" "place_sum" sPSum f fd) (H_place : Has P w K mg base "place" p_place 1 (spN3 K)) : FnOk P w K mg base CX0 2 f fd p_po (spP2 K sumL) := by
  refine F.ok sc_psum (fun vs H Q E h => ?_) (fun cdv A outer s H vs Q E hr h => ?_)
  · obtain ⟨_, _, _, _, _, _, _, _, _, _, _, _, rfl, _⟩ := h
    rfl
  · obtain ⟨va, vb, a, b, x, y, w, x', y', w', n, m, rfl, ⟨ta, rfl, sa⟩, ⟨tb, rfl, sb⟩, PA, PB, hn, hm, q⟩ := h
    have ea := PA.eq
    have eb := PB.eq
    subst ea eb
    refine ⟨_, (pss_cons (ps_asg (pv 0) (pg_tup rfl (pgs_cons (pg_name (i := 2) sc_psum.nd rfl (Or.inl rfl)) (pgs_cons (pg_name (i := 3) sc_psum.nd rfl (Or.inl rfl)) (pgs_cons (pg_name (i := 4) sc_psum.nd rfl (Or.inl rfl)) pgs_nil)))))
      (pss_cons (ps_asg (pv 1) (pg_tup rfl (pgs_cons (pg_name (i := 5) sc_psum.nd rfl (Or.inl rfl)) (pgs_cons (pg_name (i := 6) sc_psum.nd rfl (Or.inl rfl)) (pgs_cons (pg_name (i := 7) sc_psum.nd rfl (Or.inl rfl)) pgs_nil)))))
      (pss_one (ps_ret (pe_has H_place (hr.mono (by decide)) (by rfl) (pa_cons (pe_op op_add (pe_op op_mul (pv 2) (pv 7)) (pe_op op_mul (pv 5) (pv 4))) (pa_cons (pe_op op_add (pe_op op_mul (pv 3) (pv 7)) (pe_op op_mul (pv 6) (pv 4))) (pa_cons (pe_op op_mul (pv 4) (pv 7)) pa_nil)))))))), ?_⟩
    refine ⟨_, rfl, ta, _, rfl, sa, rfl, _, _, rfl, _, _, rfl, _, _, rfl, rfl, ?_⟩
    refine ⟨_, rfl, tb, _, rfl, sb, rfl, _, _, rfl, _, _, rfl, _, _, rfl, rfl, ?_⟩
    refine ⟨_, rfl, _, rfl, _, _, rfl, rfl, Or.inl (lt64 PA.bx hn), _, rfl, _, rfl, _, _, rfl, rfl, Or.inl (lt64 PB.bx hm), _, _, rfl, rfl, _, rfl, _, rfl, _, _, rfl, rfl, Or.inl (lt64 PA.bby hn), _, rfl, _, rfl, _, _, rfl, rfl, Or.inl (lt64 PB.bby hm), _, _, rfl, rfl, _, rfl, _, rfl, _, _, rfl, rfl, Or.inl (lt64 PA.bw hn), ?_⟩
    have h2 := two80 hn hm
    refine ⟨_, _, _, rfl, Int.mul_pos PA.pos PB.pos, le100 (addb (mulb PA.bx PB.bw) (mulb PB.bx PA.bw)) h2, le100 (addb (mulb PA.bby PB.bw) (mulb PB.bby PA.bw)) h2, le100 (mulb PA.bw PB.bw) (Nat.le_trans (Nat.le_add_right _ _) h2), fun p H' s' tp => q p H' s' tp⟩
theorem sc_wayto : FnScope n_psum p_po (defScope sWayTo) := ⟨rfl, rfl, rfl, by decide +kernel, rfl, by decide +kernel, by decide +kernel⟩
theorem ok_wayto {f : Addr} {fd : FuncData} (F : Fun K "way_to" "way_to" sWayTo f fd) (H_place : Has P w K mg base "place" p_place 1 (spN3 K)) : FnOk P w K mg base CX0 2 f fd p_po (spP2 K wayL) := by
  refine F.ok sc_wayto (fun vs H Q E h => ?_) (fun cdv A outer s H vs Q E hr h => ?_)
  · obtain ⟨_, _, _, _, _, _, _, _, _, _, _, _, rfl, _⟩ := h
    rfl
  · obtain ⟨va, vb, a, b, x, y, w, x', y', w', n, m, rfl, ⟨ta, rfl, sa⟩, ⟨tb, rfl, sb⟩, PA, PB, hn, hm, q⟩ := h
    have ea := PA.eq
    have eb := PB.eq
    subst ea eb
    refine ⟨_, (pss_cons (ps_asg (pv 0) (pg_tup rfl (pgs_cons (pg_name (i := 2) sc_wayto.nd rfl (Or.inl rfl)) (pgs_cons (pg_name (i := 3) sc_wayto.nd rfl (Or.inl rfl)) (pgs_cons (pg_name (i := 4) sc_wayto.nd rfl (Or.inl rfl)) pgs_nil)))))
      (pss_cons (ps_asg (pv 1) (pg_tup rfl (pgs_cons (pg_name (i := 5) sc_wayto.nd rfl (Or.inl rfl)) (pgs_cons (pg_name (i := 6) sc_wayto.nd rfl (Or.inl rfl)) (pgs_cons (pg_name (i := 7) sc_wayto.nd rfl (Or.inl rfl)) pgs_nil)))))
      (pss_one (ps_ret (pe_has H_place (hr.mono (by decide)) (by rfl) (pa_cons (pe_op op_sub (pe_op op_mul (pv 5) (pv 4)) (pe_op op_mul (pv 2) (pv 7))) (pa_cons (pe_op op_sub (pe_op op_mul (pv 6) (pv 4)) (pe_op op_mul (pv 3) (pv 7))) (pa_cons (pe_op op_mul (pv 4) (pv 7)) pa_nil)))))))), ?_⟩
    refine ⟨_, rfl, ta, _, rfl, sa, rfl, _, _, rfl, _, _, rfl, _, _, rfl, rfl, ?_⟩
    refine ⟨_, rfl, tb, _, rfl, sb, rfl, _, _, rfl, _, _, rfl, _, _, rfl, rfl, ?_⟩
    refine ⟨_, rfl, _, rfl, _, _, rfl, rfl, Or.inl (lt64 PB.bx hm), _, rfl, _, rfl, _, _, rfl, rfl, Or.inl (lt64 PA.bx hn), _, _, rfl, rfl, _, rfl, _, rfl, _, _, rfl, rfl, Or.inl (lt64 PB.bby hm), _, rfl, _, rfl, _, _, rfl, rfl, Or.inl (lt64 PA.bby hn), _, _, rfl, rfl, _, rfl, _, rfl, _, _, rfl, rfl, Or.inl (lt64 PA.bw hn), ?_⟩
    have h2 := two80 hm hn
    refine ⟨_, _, _, rfl, Int.mul_pos PA.pos PB.pos, le100 (subb (mulb PB.bx PA.bw) (mulb PA.bx PB.bw)) h2, le100 (subb (mulb PB.bby PA.bw) (mulb PA.bby PB.bw)) h2, le100 (mulb PA.bw PB.bw) (Nat.le_trans (Nat.le_add_left _ _) h2), fun p H' s' tp => q p H' s' tp⟩
abbrev n_ptimes : List Str := ["point", "fraction", "x", "y", "w", "n", "m"]
abbrev p_pf : List Str := ["point", "fraction"]
theorem sc_ptimes : FnScope n_ptimes p_pf (defScope sPTimes) := ⟨rfl, rfl, rfl, by decide +kernel, rfl, by decide +kernel, by decide +kernel⟩
theorem ok_ptimes {f : Addr} {fd : FuncData} (F : Fun K "place_times" "place_times" sPTimes f fd) (H_place : Has P w K mg base "place" p_place 1 (spN3 K)) : FnOk P w K mg base CX0 2 f fd p_pf (spPF K byL) := by
  refine F.ok sc_ptimes (fun vs H Q E h => ?_) (fun cdv A outer s H vs Q E hr h => ?_)
  · obtain ⟨_, _, _, _, _, _, _, _, _, _, _, rfl, _⟩ := h
    rfl
  · obtain ⟨va, vb, a, b, x, y, w, t, e, n, m, rfl, ⟨ta, rfl, sa⟩, ⟨tb, rfl, sb⟩, PA, PB, hn, hm, q⟩ := h
    have ea := PA.eq
    have eb := PB.eq
    subst ea eb
    refine ⟨_, (pss_cons (ps_asg (pv 0) (pg_tup rfl (pgs_cons (pg_name (i := 2) sc_ptimes.nd rfl (Or.inl rfl)) (pgs_cons (pg_name (i := 3) sc_ptimes.nd rfl (Or.inl rfl)) (pgs_cons (pg_name (i := 4) sc_ptimes.nd rfl (Or.inl rfl)) pgs_nil)))))
      (pss_cons (ps_asg (pv 1) (pg_tup rfl (pgs_cons (pg_name (i := 5) sc_ptimes.nd rfl (Or.inl rfl)) (pgs_cons (pg_name (i := 6) sc_ptimes.nd rfl (Or.inl rfl)) pgs_nil))))
      (pss_one (ps_ret (pe_has H_place (hr.mono (by decide)) (by rfl) (pa_cons (pe_op op_mul (pv 2) (pv 5)) (pa_cons (pe_op op_mul (pv 3) (pv 5)) (pa_cons (pe_op op_mul (pv 4) (pv 6)) pa_nil)))))))), ?_⟩
    refine ⟨_, rfl, ta, _, rfl, sa, rfl, _, _, rfl, _, _, rfl, _, _, rfl, rfl, ?_⟩
    refine ⟨_, rfl, tb, _, rfl, sb, rfl, _, _, rfl, _, _, rfl, rfl, ?_⟩
    refine ⟨_, rfl, _, rfl, _, _, rfl, rfl, Or.inl (lt64 PA.bx hn), _, rfl, _, rfl, _, _, rfl, rfl, Or.inl (lt64 PA.bby hn), _, rfl, _, rfl, _, _, rfl, rfl, Or.inl (lt64 PA.bw hn), ?_⟩
    have h2 : n * m ≤ 2 ^ 90 := Nat.le_trans (sq80 hn hm) (by decide)
    exact ⟨_, _, _, rfl, Int.mul_pos PA.pos PB.pos, le100 (mulb PA.bx PB.bt) h2, le100 (mulb PA.bby PB.bt) h2, le100 (mulb PA.bw PB.bb) h2, fun p H' s' tp => q p H' s' tp⟩
abbrev p_pof : List Str := ["point", "other", "fraction"]
theorem sc_pbetw : FnScope p_pof p_pof (defScope sPBetw) := ⟨rfl, rfl, rfl, by decide +kernel, rfl, by decide +kernel, by decide +kernel⟩
theorem ok_pbetw {f : Addr} {fd : FuncData} (F : Fun K "place_between" "place_between" sPBetw f fd) (H_place_sum : Has P w K mg base "place_sum" p_po 2 (spP2 K sumL)) (H_way_to : Has P w K mg base "way_to" p_po 2 (spP2 K wayL)) (H_place_times : Has P w K mg base "place_times" p_pf 2 (spPF K byL)) :
    FnOk P w K mg base CX0 3 f fd p_pof (spPPF K) := by
  refine F.ok sc_pbetw (fun vs H Q E h => ?_) (fun cdv A outer s H vs Q E hr h => ?_)
  · obtain ⟨_, _, _, _, _, _, _, _, _, _, _, _, _, _, rfl, _⟩ := h
    rfl
  · obtain ⟨va, vb, vc, a, b, c, x, y, w, x', y', w', t, e, rfl, ta, tb, tc, PA, PB, PC, q⟩ := h
    refine ⟨_, (pss_one (ps_ret (pe_has H_place_sum (hr.mono (by decide)) (by rfl) (pa_cons (pv 0) (pa_cons (pe_has H_place_times (hr.mono (by decide)) (by rfl) (pa_cons (pe_has H_way_to (hr.mono (by decide)) (by rfl) (pa_cons (pv 0) (pa_cons (pv 1) pa_nil))) (pa_cons (pv 2) pa_nil))) pa_nil))))), ?_⟩
    obtain ⟨_, p, q', r, _, _, _, _, PW⟩ := pt_way PA PB
    obtain ⟨_, p2, q2, r2, _, _, _, _, PX⟩ := pt_by PW PC
    exact ⟨_, rfl, _, rfl, _, rfl, _, _, a, b, _, _, _, _, _, _, _, _, rfl, ta, tb, PA, PB, by decide, by decide, fun p1 H1 s1 t1 => ⟨_, rfl, _, _, _, c, _, _, _, _, _, _, _, rfl, t1, tc.same s1, PW, PC, by decide, by decide, fun p2 H2 s2 t2 =>
      ⟨_, _, a, _, _, _, _, _, _, _, _, _, rfl, ta.same (s1.trans s2), t2, PA, PX, by decide, by decide, fun p3 H3 s3 t3 => q p3 H3 ((s1.trans s2).trans s3) t3⟩⟩⟩
end
end K3

namespace K3
open PySem L2 Ur
abbrev sPlus : Stmt := top 29
abbrev sMinus : Stmt := top 30
abbrev sTimes : Stmt := top 31
abbrev sBetween : Stmt := top 32
abbrev sInner : Stmt := top 33
abbrev sCross : Stmt := top 34
abbrev sQuarter : Stmt := top 35
abbrev sSense : Stmt := top 36
abbrev sLFrac : Stmt := top 45
abbrev sLSign : Stmt := top 46
abbrev sLSpot : Stmt := top 47
abbrev sLWay : Stmt := top 48
abbrev sLOn : Stmt := top 49
abbrev sLBy : Stmt := top 50
abbrev sLCross : Stmt := top 51
abbrev sLDot : Stmt := top 52
abbrev sLQuarter : Stmt := top 53
abbrev sLSide : Stmt := top 54
abbrev sDrawn : Stmt := top 55
def spPP (K : PySem.W.Frag) (f : List Int → List Int → List Int) : Sp := spP2 K f
section
variable {P : Program} {w : World} {K :
      PySem.W.Frag} {mg : Str → Option Value} {base : Heap}
theorem sc_innerof : FnScope p_po p_po (defScope sInnerOf) := ⟨rfl, rfl, rfl, by decide +kernel, rfl, by decide +kernel, by decide +kernel⟩
theorem ok_innerof {f : Addr} {fd : FuncData} (F : Fun K "inner_of" "inner_of" sInnerOf f fd) (H_ratio : Has P w K mg base "ratio" p_ratio 1 (spN2 K)) : FnOk P w K mg base CX0 2 f fd p_po (spP2 K innL) := by
  refine F.ok sc_innerof (fun vs H Q E h => ?_) (fun cdv A outer s H vs Q E hr h => ?_)
  · obtain ⟨_, _, _, _, _, _, _, _, _, _, _, _, rfl, _⟩ := h
    rfl
  · obtain ⟨va, vb, a, b, x, y, w, x', y', w', n, m, rfl, ⟨ta, rfl, sa⟩, ⟨tb, rfl, sb⟩, PA, PB, hn, hm, q⟩ := h
    have ea := PA.eq
    have eb := PB.eq
    subst ea eb
    refine ⟨_, (pss_one (ps_ret (pe_has H_ratio (hr.mono (by decide)) (by rfl) (pa_cons (pe_op op_add (pe_op op_mul (pe_ix (r := rIxT K) ix_tup (pv 0) pe_int (fun _ _ => rfl)) (pe_ix (r := rIxT K) ix_tup (pv 1) pe_int (fun _ _ => rfl))) (pe_op op_mul (pe_ix (r := rIxT K) ix_tup (pv 0) pe_int (fun _ _ => rfl)) (pe_ix (r := rIxT K) ix_tup (pv 1) pe_int (fun _ _ => rfl)))) (pa_cons (pe_op op_mul (pe_ix (r := rIxT K) ix_tup (pv 0) pe_int (fun _ _ => rfl)) (pe_ix (r := rIxT K) ix_tup (pv 1) pe_int (fun _ _ => rfl))) pa_nil))))), ?_⟩
    refine ⟨_, rfl, ta, _, 0, _, rfl, rfl, sa, rfl, _, rfl, tb, _, 0, _, rfl, rfl, sb, rfl, _, _, rfl, rfl, Or.inl (lt64 PA.bx hn), _, rfl, ta, _, 1, _, rfl, rfl, sa, rfl, _, rfl, tb, _, 1, _, rfl, rfl, sb, rfl, _, _, rfl, rfl, Or.inl (lt64 PA.bby hn), _, _, rfl, rfl, _, rfl, ta, _, 2, _, rfl, rfl, sa, rfl, _, rfl, tb, _, 2, _, rfl, rfl, sb, rfl, _, _, rfl, rfl, Or.inl (lt64 PA.bw hn), ?_⟩
    have h2 := two80 hn hm
    have h3 := sq80 hn hm
    exact ⟨_, _, rfl, Int.mul_pos PA.pos PB.pos, le100 (addb (mulb PA.bx PB.bx) (mulb PA.bby PB.bby)) (Nat.le_trans (Nat.add_le_add h3 h3) (by decide)), le100 (mulb PA.bw PB.bw) (Nat.le_trans h3 (by decide)), fun p H' s' tp => q p H' s' tp⟩
theorem sc_crossof : FnScope p_po p_po (defScope sCrossOf) := ⟨rfl, rfl, rfl, by decide +kernel, rfl, by decide +kernel, by decide +kernel⟩
theorem ok_crossof {f : Addr} {fd : FuncData} (F : Fun K "cross_of" "cross_of" sCrossOf f fd) (H_ratio : Has P w K mg base "ratio" p_ratio 1 (spN2 K)) : FnOk P w K mg base CX0 2 f fd p_po (spP2 K crsL) := by
  refine F.ok sc_crossof (fun vs H Q E h => ?_) (fun cdv A outer s H vs Q E hr h => ?_)
  · obtain ⟨_, _, _, _, _, _, _, _, _, _, _, _, rfl, _⟩ := h
    rfl
  · obtain ⟨va, vb, a, b, x, y, w, x', y', w', n, m, rfl, ⟨ta, rfl, sa⟩, ⟨tb, rfl, sb⟩, PA, PB, hn, hm, q⟩ := h
    have ea := PA.eq
    have eb := PB.eq
    subst ea eb
    refine ⟨_, (pss_one (ps_ret (pe_has H_ratio (hr.mono (by decide)) (by rfl) (pa_cons (pe_op op_sub (pe_op op_mul (pe_ix (r := rIxT K) ix_tup (pv 0) pe_int (fun _ _ => rfl)) (pe_ix (r := rIxT K) ix_tup (pv 1) pe_int (fun _ _ => rfl))) (pe_op op_mul (pe_ix (r := rIxT K) ix_tup (pv 0) pe_int (fun _ _ => rfl)) (pe_ix (r := rIxT K) ix_tup (pv 1) pe_int (fun _ _ => rfl)))) (pa_cons (pe_op op_mul (pe_ix (r := rIxT K) ix_tup (pv 0) pe_int (fun _ _ => rfl)) (pe_ix (r := rIxT K) ix_tup (pv 1) pe_int (fun _ _ => rfl))) pa_nil))))), ?_⟩
    refine ⟨_, rfl, ta, _, 0, _, rfl, rfl, sa, rfl, _, rfl, tb, _, 1, _, rfl, rfl, sb, rfl, _, _, rfl, rfl, Or.inl (lt64 PA.bx hn), _, rfl, ta, _, 1, _, rfl, rfl, sa, rfl, _, rfl, tb, _, 0, _, rfl, rfl, sb, rfl, _, _, rfl, rfl, Or.inl (lt64 PA.bby hn), _, _, rfl, rfl, _, rfl, ta, _, 2, _, rfl, rfl, sa, rfl, _, rfl, tb, _, 2, _, rfl, rfl, sb, rfl, _, _, rfl, rfl, Or.inl (lt64 PA.bw hn), ?_⟩
    have h3 := sq80 hn hm
    exact ⟨_, _, rfl, Int.mul_pos PA.pos PB.pos, le100 (subb (mulb PA.bx PB.bby) (mulb PA.bby PB.bx)) (Nat.le_trans (Nat.add_le_add h3 h3) (by decide)), le100 (mulb PA.bw PB.bw) (Nat.le_trans h3 (by decide)), fun p H' s' tp => q p H' s' tp⟩
abbrev p_p : List Str := ["point"]
theorem sc_quarterof : FnScope p_p p_p (defScope sQuarterOf) := ⟨rfl, rfl, rfl, by decide +kernel, rfl, by decide +kernel, by decide +kernel⟩
theorem ok_quarterof {f : Addr} {fd : FuncData} (F : Fun K "quarter_of" "quarter_of" sQuarterOf f fd) : FnOk P w K mg base CX0 1 f fd p_p (spP1 K qtrL) := by
  refine F.ok sc_quarterof (fun vs H Q E h => ?_) (fun cdv A outer s H vs Q E hr h => ?_)
  · obtain ⟨_, _, _, _, _, _, rfl, _⟩ := h
    rfl
  · obtain ⟨va, a, x, y, w, n, rfl, ⟨ta, rfl, sa⟩, PA, hn, q⟩ := h
    have ea := PA.eq
    subst ea
    refine ⟨_, (pss_one (ps_ret (pe_tup (pa_cons (pe_un un_neg (pe_ix (r := rIxT K) ix_tup (pv 0) pe_int (fun _ _ => rfl))) (pa_cons (pe_ix (r := rIxT K) ix_tup (pv 0) pe_int (fun _ _ => rfl)) (pa_cons (pe_ix (r := rIxT K) ix_tup (pv 0) pe_int (fun _ _ => rfl)) pa_nil)))))), ?_⟩
    refine ⟨_, rfl, ta, _, 1, _, rfl, rfl, sa, rfl, _, rfl, _, rfl, ta, _, 0, _, rfl, rfl, sa, rfl, _, rfl, ta, _, 2, _, rfl, rfl, sa, rfl, by show 3 ≤ sizeLine; decide, fun p hp => ?_⟩
    exact q _ _ (same_new hp) ⟨p, rfl, SqT.of upd_same⟩
/-! ### sides -/
def lineL (x y w u v z : Int) : List Int := [v * w - y * z, x * z - u * w, x * v - u * y]
def spLine (K : PySem.W.Frag) : Sp := fun vs H Q _ => ∃ (v v' : V) (x y w x' y' w' : Int) (n m : Nat), vs = [v, v'] ∧ Tp K H v [x, y, w] ∧ Tp K H v' [x', y', w'] ∧ PtL n [x, y, w] x y w ∧ PtL m [x', y', w'] x' y' w' ∧ n ≤ 2 ^ 40 ∧ m ≤ 2 ^ 40 ∧ ∀ p H', Same H H' → Tp K H' p (lineL x y w x' y' w') → Q p H'
theorem sc_line : FnScope n_psum p_po (defScope sLine) := ⟨rfl, rfl, rfl, by decide +kernel, rfl, by decide +kernel, by decide +kernel⟩
theorem ok_line {f : Addr} {fd : FuncData} (F : Fun K "line_through_both" "line_through_both" sLine f fd) : FnOk P w K mg base CX0 1 f fd p_po (spLine K) := by
  refine F.ok sc_line (fun vs H Q E h => ?_) (fun cdv A outer s H vs Q E hr h => ?_)
  · obtain ⟨_, _, _, _, _, _, _, _, _, _, rfl, _⟩ := h
    rfl
  · obtain ⟨va, vb, x, y, w, x', y', w', n, m, rfl, ⟨ta, rfl, sa⟩, ⟨tb, rfl, sb⟩, PA, PB, hn, hm, q⟩ := h
    refine ⟨_, (pss_cons (ps_asg (pv 0) (pg_tup rfl (pgs_cons (pg_name (i := 2) sc_line.nd rfl (Or.inl rfl)) (pgs_cons (pg_name (i := 3) sc_line.nd rfl (Or.inl rfl)) (pgs_cons (pg_name (i := 4) sc_line.nd rfl (Or.inl rfl)) pgs_nil)))))
      (pss_cons (ps_asg (pv 1) (pg_tup rfl (pgs_cons (pg_name (i := 5) sc_line.nd rfl (Or.inl rfl)) (pgs_cons (pg_name (i := 6) sc_line.nd rfl (Or.inl rfl)) (pgs_cons (pg_name (i := 7) sc_line.nd rfl (Or.inl rfl)) pgs_nil)))))
      (pss_one (ps_ret (pe_tup (pa_cons (pe_op op_sub (pe_op op_mul (pv 6) (pv 4)) (pe_op op_mul (pv 3) (pv 7))) (pa_cons (pe_op op_sub (pe_op op_mul (pv 2) (pv 7)) (pe_op op_mul (pv 5) (pv 4))) (pa_cons (pe_op op_sub (pe_op op_mul (pv 2) (pv 6)) (pe_op op_mul (pv 5) (pv 3))) pa_nil)))))))), ?_⟩
    refine ⟨_, rfl, ta, _, rfl, sa, rfl, _, _, rfl, _, _, rfl, _, _, rfl, rfl, ?_⟩
    refine ⟨_, rfl, tb, _, rfl, sb, rfl, _, _, rfl, _, _, rfl, _, _, rfl, rfl, ?_⟩
    refine ⟨_, rfl, _, rfl, _, _, rfl, rfl, Or.inl (lt64 PB.bby hm), _, rfl, _, rfl, _, _, rfl, rfl, Or.inl (lt64 PA.bby hn), _, _, rfl, rfl, _, rfl, _, rfl, _, _, rfl, rfl, Or.inl (lt64 PA.bx hn), _, rfl, _, rfl, _, _, rfl, rfl, Or.inl (lt64 PB.bx hm), _, _, rfl, rfl, _, rfl, _, rfl, _, _, rfl, rfl, Or.inl (lt64 PA.bx hn), _, rfl, _, rfl, _, _, rfl, rfl, Or.inl (lt64 PB.bx hm), _, _, rfl, rfl, by show 3 ≤ sizeLine; decide, fun p hp => ?_⟩
    exact q _ _ (same_new hp) ⟨p, rfl, SqT.of upd_same⟩
abbrev n_sideof : List Str := ["point", "other", "third", "a", "b", "h"]
abbrev p_pot : List Str := ["point", "other", "third"]
theorem sc_sideof : FnScope n_sideof p_pot (defScope sSideOf) := ⟨rfl, rfl, rfl, by decide +kernel, rfl, by decide +kernel, by decide +kernel⟩
theorem le40 {n : Nat} (h : n ≤ 2 ^ 30) : n ≤ 2 ^ 40 := Nat.le_trans h (by decide)
theorem ok_sideof {f : Addr} {fd : FuncData} (F : Fun K "side_of" "side_of" sSideOf f fd) (H_line_through_both : Has P w K mg base "line_through_both" p_po 1 (spLine K)) (H_sign_of : Has P w K mg base "sign_of" p_n 1 spSgn) : FnOk P w K mg base CX0 2 f fd p_pot (spSide K) := by
  refine F.ok sc_sideof (fun vs H Q E h => ?_) (fun cdv A outer s H vs Q E hr h => ?_)
  · obtain ⟨_, _, _, _, _, _, _, _, _, _, _, _, _, _, _, _, _, _, rfl, _⟩ := h
    rfl
  · obtain ⟨va, vb, vc, a, b, c, x, y, w, x', y', w', p, q', r, n, m, l, rfl, tA, tB, ⟨tc, rfl, sc⟩, PA, PB, PC, hn, hm, hl, q⟩ := h
    have ea := PA.eq
    have eb := PB.eq
    have ec := PC.eq
    subst ea eb ec
    refine ⟨_, (pss_cons (ps_asg (pe_has H_line_through_both (hr.mono (by decide)) (by rfl) (pa_cons (pv 0) (pa_cons (pv 1) pa_nil))) (pg_tup rfl (pgs_cons (pg_name (i := 3) sc_sideof.nd rfl (Or.inl rfl)) (pgs_cons (pg_name (i := 4) sc_sideof.nd rfl (Or.inl rfl)) (pgs_cons (pg_name (i := 5) sc_sideof.nd rfl (Or.inl rfl)) pgs_nil)))))
      (pss_one (ps_ret (pe_has H_sign_of (hr.mono (by decide)) (by rfl) (pa_cons (pe_op op_sub (pe_op op_sub (pe_op op_mul (pv 5) (pe_ix (r := rIxT K) ix_tup (pv 2) pe_int (fun _ _ => rfl))) (pe_op op_mul (pv 3) (pe_ix (r := rIxT K) ix_tup (pv 2) pe_int (fun _ _ => rfl)))) (pe_op op_mul (pv 4) (pe_ix (r := rIxT K) ix_tup (pv 2) pe_int (fun _ _ => rfl)))) pa_nil))))), ?_⟩
    refine ⟨_, rfl, _, rfl, _, _, x, y, w, x', y', w', n, m, rfl, tA, tB, PA, PB, le40 hn, le40 hm, fun p1 H1 s1 t1 => ?_⟩
    obtain ⟨tl, rfl, sl⟩ := t1
    have sc1 := same_sqT s1 sc
    refine ⟨tl, _, rfl, sl, rfl, _, _, rfl, _, _, rfl, _, _, rfl, rfl, ?_⟩
    refine ⟨_, rfl, _, rfl, tc, _, 2, _, rfl, rfl, sc1, rfl, _, _, rfl, rfl, Or.inr (lt64 PC.bw (le40 hl)), _, rfl, _, rfl, tc, _, 0, _, rfl, rfl, sc1, rfl, _, _, rfl, rfl, Or.inr (lt64 PC.bx (le40 hl)), _, _, rfl, rfl, _, rfl, _, rfl, tc, _, 1, _, rfl, rfl, sc1, rfl, _, _, rfl, rfl, Or.inr (lt64 PC.bby (le40 hl)), _, _, rfl, rfl, _, rfl, ?_⟩
    exact q H1 s1
/-! ### checks -/
def spChkP (K : PySem.W.Frag) : Sp := fun vs H Q _ => ∃ (v : V) (a : List Int) (x y w : Int) (n : Nat), vs = [v] ∧ Tp K H v a ∧ PtL n a x y w ∧ n ≤ 2 ^ 40 ∧ ∀ H', Same H H' → Q .non H'
def spChkF (K : PySem.W.Frag) : Sp := fun vs H Q _ => ∃ (v : V) (a : List Int) (t e : Int) (n : Nat), vs = [v] ∧ Tp K H v a ∧ FrL n a t e ∧ n ≤ 2 ^ 40 ∧ ∀ H', Same H H' → Q .non H'
theorem arg_ints {K : PySem.W.Frag} {H : Hp} {t : Addr} {ns : List Int} (h : SqT K H t (ns.map V.int)) (hl : ns.length ≤ 1000) (hb : ∀ n ∈ ns, n.natAbs ≤ 2 ^ 40) : Arg K H (.ref t) .tup (ns.map V.int) := by
  refine ⟨tup_kd h, fun _ => ⟨t, rfl, h, by simpa using hl, fun y hy => ?_, fun i hi => ?_⟩⟩
  · obtain ⟨n, _, rfl⟩ := List.mem_map.mp hy
    exact ⟨⟨.int, .base (.int n)⟩, .int n, .int n, rfl, Nat.zero_le _⟩
  · obtain ⟨n, hn, e⟩ := List.mem_map.mp hi
    cases e
    exact Nat.lt_of_le_of_lt (hb _ hn) (Nat.pow_lt_pow_right (by decide) (by decide))
theorem ok_chkP {f : Addr} {fd : FuncData} (F : Fun K "check_point" "check_point" sChkP f fd) (H_point_fits : Has P w K mg base "point_fits" n_value 3 (spTold K isPt)) : FnOk P w K mg base CX0 4 f fd n_value (spChkP K) := by
  have sc : FnScope n_value n_value (defScope sChkP) := ⟨rfl, rfl, rfl, by decide +kernel, rfl, by decide +kernel, by decide +kernel⟩
  refine F.ok sc (fun vs H Q E h => ?_) (fun cdv A outer s H vs Q E hr h => ?_)
  · obtain ⟨_, _, _, _, _, _, rfl, _⟩ := h
    rfl
  · obtain ⟨va, a, x, y, w, n, rfl, ⟨ta, rfl, sa⟩, PA, hn, q⟩ := h
    have ea := PA.eq
    subst ea
    refine ⟨_, (pss_one (ps_if (pt_not (pt_val (pe_has H_point_fits (hr.mono (by decide)) (by rfl) (pa_cons (pv 0) pa_nil)))) (pss_one ps_never) pss_nil)), ?_⟩
    refine ⟨_, rfl, _, .tup, _, rfl, arg_ints sa (by simp) (fun z hz => ?_), fun H1 s1 => ⟨_, rfl, ?_⟩⟩
    · simp only [List.mem_cons, List.not_mem_nil, or_false] at hz
      rcases hz with rfl | rfl | rfl
      · exact Nat.le_trans PA.bx hn
      · exact Nat.le_trans PA.bby hn
      · exact Nat.le_trans PA.bw hn
    · have e2 : (!(Kd.tup == Kd.tup && isPt ([x, y, w].map V.int))) = false := by
        show (!(decide (0 < w) && decide (Nat.gcd (Nat.gcd x.natAbs y.natAbs) w.natAbs = 1))) = false
        rw [decide_eq_true PA.pos, decide_eq_true PA.red]
        rfl
      dsimp only
      rw [e2]
      exact iteF (q H1 s1)
theorem ok_chkF {f : Addr} {fd : FuncData} (F : Fun K "check_fraction" "check_fraction" sChkF f fd) (H_fraction_fits : Has P w K mg base "fraction_fits" n_value 3 (spTold K isFr)) : FnOk P w K mg base CX0 4 f fd n_value (spChkF K) := by
  have sc : FnScope n_value n_value (defScope sChkF) := ⟨rfl, rfl, rfl, by decide +kernel, rfl, by decide +kernel, by decide +kernel⟩
  refine F.ok sc (fun vs H Q E h => ?_) (fun cdv A outer s H vs Q E hr h => ?_)
  · obtain ⟨_, _, _, _, _, rfl, _⟩ := h
    rfl
  · obtain ⟨va, a, t, e, n, rfl, ⟨ta, rfl, sa⟩, PA, hn, q⟩ := h
    have ea := PA.eq
    subst ea
    refine ⟨_, (pss_one (ps_if (pt_not (pt_val (pe_has H_fraction_fits (hr.mono (by decide)) (by rfl) (pa_cons (pv 0) pa_nil)))) (pss_one ps_never) pss_nil)), ?_⟩
    refine ⟨_, rfl, _, .tup, _, rfl, arg_ints sa (by simp) (fun z hz => ?_), fun H1 s1 => ⟨_, rfl, ?_⟩⟩
    · simp only [List.mem_cons, List.not_mem_nil, or_false] at hz
      rcases hz with rfl | rfl
      · exact Nat.le_trans PA.bt hn
      · exact Nat.le_trans PA.bb hn
    · have e2 : (!(Kd.tup == Kd.tup && isFr ([t, e].map V.int))) = false := by
        show (!(decide (0 < e) && decide (Nat.gcd t.natAbs e.natAbs = 1))) = false
        rw [decide_eq_true PA.pos, decide_eq_true PA.red]
        rfl
      dsimp only
      rw [e2]
      exact iteF (q H1 s1)
theorem ok_m_plus {f : Addr} {fd : FuncData} (F : Fun K "plus" "plus" sPlus f fd) (H_check_point : Has P w K mg base "check_point" n_value 4 (spChkP K)) (H_place_sum : Has P w K mg base "place_sum" p_po 2 (spP2 K sumL)) : FnOk P w K mg base CX0 5 f fd p_po (spP2 K sumL) := by
  have sc : FnScope p_po p_po (defScope sPlus) := ⟨rfl, rfl, rfl, by decide +kernel, rfl, by decide +kernel, by decide +kernel⟩
  refine F.ok sc (fun vs H Q E h => ?_) (fun cdv A outer s H vs Q E hr h => ?_)
  · obtain ⟨_, _, _, _, _, _, _, _, _, _, _, _, rfl, _⟩ := h
    rfl
  · obtain ⟨va, vb, a, b, x, y, w, x', y', w', n, m, rfl, ta, tb, PA, PB, hn, hm, q⟩ := h
    refine ⟨_, (pss_cons (ps_expr (pe_has H_check_point (hr.mono (by decide)) (by rfl) (pa_cons (pv 0) pa_nil)))
      (pss_cons (ps_expr (pe_has H_check_point (hr.mono (by decide)) (by rfl) (pa_cons (pv 1) pa_nil)))
      (pss_one (ps_ret (pe_has H_place_sum (hr.mono (by decide)) (by rfl) (pa_cons (pv 0) (pa_cons (pv 1) pa_nil))))))), ?_⟩
    refine ⟨_, rfl, va, a, x, y, w, n, rfl, ta, PA, hn, fun H1 s1 => ⟨_, rfl, vb, b, x', y', w', m, rfl, tb.same s1, PB, hm, fun H2 s2 => ?_⟩⟩
    have s12 := s1.trans s2
    exact ⟨_, rfl, _, rfl, va, vb, a, b, _, _, _, _, _, _, n, m, rfl, ta.same s12, tb.same s12, PA, PB, hn, hm, fun p H3 s3 tp => q p H3 (s12.trans s3) tp⟩
theorem ok_m_minus {f : Addr} {fd : FuncData} (F : Fun K "minus" "minus" sMinus f fd) (H_check_point : Has P w K mg base "check_point" n_value 4 (spChkP K)) (H_way_to : Has P w K mg base "way_to" p_po 2 (spP2 K wayL)) : FnOk P w K mg base CX0 5 f fd p_po (spP2 K fun a b => wayL b a) := by
  have sc : FnScope p_po p_po (defScope sMinus) := ⟨rfl, rfl, rfl, by decide +kernel, rfl, by decide +kernel, by decide +kernel⟩
  refine F.ok sc (fun vs H Q E h => ?_) (fun cdv A outer s H vs Q E hr h => ?_)
  · obtain ⟨_, _, _, _, _, _, _, _, _, _, _, _, rfl, _⟩ := h
    rfl
  · obtain ⟨va, vb, a, b, x, y, w, x', y', w', n, m, rfl, ta, tb, PA, PB, hn, hm, q⟩ := h
    refine ⟨_, (pss_cons (ps_expr (pe_has H_check_point (hr.mono (by decide)) (by rfl) (pa_cons (pv 0) pa_nil)))
      (pss_cons (ps_expr (pe_has H_check_point (hr.mono (by decide)) (by rfl) (pa_cons (pv 1) pa_nil)))
      (pss_one (ps_ret (pe_has H_way_to (hr.mono (by decide)) (by rfl) (pa_cons (pv 1) (pa_cons (pv 0) pa_nil))))))), ?_⟩
    refine ⟨_, rfl, va, a, x, y, w, n, rfl, ta, PA, hn, fun H1 s1 => ⟨_, rfl, vb, b, x', y', w', m, rfl, tb.same s1, PB, hm, fun H2 s2 => ?_⟩⟩
    have s12 := s1.trans s2
    exact ⟨_, rfl, _, rfl, vb, va, b, a, _, _, _, _, _, _, m, n, rfl, tb.same s12, ta.same s12, PB, PA, hm, hn, fun p H3 s3 tp => q p H3 (s12.trans s3) tp⟩
theorem ok_m_inner {f : Addr} {fd : FuncData} (F : Fun K "inner" "inner" sInner f fd) (H_check_point : Has P w K mg base "check_point" n_value 4 (spChkP K)) (H_inner_of : Has P w K mg base "inner_of" p_po 2 (spP2 K innL)) : FnOk P w K mg base CX0 5 f fd p_po (spP2 K innL) := by
  have sc : FnScope p_po p_po (defScope sInner) := ⟨rfl, rfl, rfl, by decide +kernel, rfl, by decide +kernel, by decide +kernel⟩
  refine F.ok sc (fun vs H Q E h => ?_) (fun cdv A outer s H vs Q E hr h => ?_)
  · obtain ⟨_, _, _, _, _, _, _, _, _, _, _, _, rfl, _⟩ := h
    rfl
  · obtain ⟨va, vb, a, b, x, y, w, x', y', w', n, m, rfl, ta, tb, PA, PB, hn, hm, q⟩ := h
    refine ⟨_, (pss_cons (ps_expr (pe_has H_check_point (hr.mono (by decide)) (by rfl) (pa_cons (pv 0) pa_nil)))
      (pss_cons (ps_expr (pe_has H_check_point (hr.mono (by decide)) (by rfl) (pa_cons (pv 1) pa_nil)))
      (pss_one (ps_ret (pe_has H_inner_of (hr.mono (by decide)) (by rfl) (pa_cons (pv 0) (pa_cons (pv 1) pa_nil))))))), ?_⟩
    refine ⟨_, rfl, va, a, x, y, w, n, rfl, ta, PA, hn, fun H1 s1 => ⟨_, rfl, vb, b, x', y', w', m, rfl, tb.same s1, PB, hm, fun H2 s2 => ?_⟩⟩
    have s12 := s1.trans s2
    exact ⟨_, rfl, _, rfl, va, vb, a, b, _, _, _, _, _, _, n, m, rfl, ta.same s12, tb.same s12, PA, PB, hn, hm, fun p H3 s3 tp => q p H3 (s12.trans s3) tp⟩
theorem ok_m_cross {f : Addr} {fd : FuncData} (F : Fun K "cross" "cross" sCross f fd) (H_check_point : Has P w K mg base "check_point" n_value 4 (spChkP K)) (H_cross_of : Has P w K mg base "cross_of" p_po 2 (spP2 K crsL)) : FnOk P w K mg base CX0 5 f fd p_po (spP2 K crsL) := by
  have sc : FnScope p_po p_po (defScope sCross) := ⟨rfl, rfl, rfl, by decide +kernel, rfl, by decide +kernel, by decide +kernel⟩
  refine F.ok sc (fun vs H Q E h => ?_) (fun cdv A outer s H vs Q E hr h => ?_)
  · obtain ⟨_, _, _, _, _, _, _, _, _, _, _, _, rfl, _⟩ := h
    rfl
  · obtain ⟨va, vb, a, b, x, y, w, x', y', w', n, m, rfl, ta, tb, PA, PB, hn, hm, q⟩ := h
    refine ⟨_, (pss_cons (ps_expr (pe_has H_check_point (hr.mono (by decide)) (by rfl) (pa_cons (pv 0) pa_nil)))
      (pss_cons (ps_expr (pe_has H_check_point (hr.mono (by decide)) (by rfl) (pa_cons (pv 1) pa_nil)))
      (pss_one (ps_ret (pe_has H_cross_of (hr.mono (by decide)) (by rfl) (pa_cons (pv 0) (pa_cons (pv 1) pa_nil))))))), ?_⟩
    refine ⟨_, rfl, va, a, x, y, w, n, rfl, ta, PA, hn, fun H1 s1 => ⟨_, rfl, vb, b, x', y', w', m, rfl, tb.same s1, PB, hm, fun H2 s2 => ?_⟩⟩
    have s12 := s1.trans s2
    exact ⟨_, rfl, _, rfl, va, vb, a, b, _, _, _, _, _, _, n, m, rfl, ta.same s12, tb.same s12, PA, PB, hn, hm, fun p H3 s3 tp => q p H3 (s12.trans s3) tp⟩
theorem ok_m_times {f : Addr} {fd : FuncData} (F : Fun K "times" "times" sTimes f fd) (H_check_point : Has P w K mg base "check_point" n_value 4 (spChkP K)) (H_check_fraction : Has P w K mg base "check_fraction" n_value 4 (spChkF K)) (H_place_times : Has P w K mg base "place_times" p_pf 2 (spPF K byL)) : FnOk P w K mg base CX0 5 f fd p_pf (spPF K byL) := by
  have sc : FnScope p_pf p_pf (defScope sTimes) := ⟨rfl, rfl, rfl, by decide +kernel, rfl, by decide +kernel, by decide +kernel⟩
  refine F.ok sc (fun vs H Q E h => ?_) (fun cdv A outer s H vs Q E hr h => ?_)
  · obtain ⟨_, _, _, _, _, _, _, _, _, _, _, rfl, _⟩ := h
    rfl
  · obtain ⟨va, vb, a, b, x, y, w, t, e, n, m, rfl, ta, tb, PA, PB, hn, hm, q⟩ := h
    refine ⟨_, (pss_cons (ps_expr (pe_has H_check_point (hr.mono (by decide)) (by rfl) (pa_cons (pv 0) pa_nil)))
      (pss_cons (ps_expr (pe_has H_check_fraction (hr.mono (by decide)) (by rfl) (pa_cons (pv 1) pa_nil)))
      (pss_one (ps_ret (pe_has H_place_times (hr.mono (by decide)) (by rfl) (pa_cons (pv 0) (pa_cons (pv 1) pa_nil))))))), ?_⟩
    refine ⟨_, rfl, va, a, x, y, w, n, rfl, ta, PA, hn, fun H1 s1 => ⟨_, rfl, vb, b, t, e, m, rfl, tb.same s1, PB, hm, fun H2 s2 => ?_⟩⟩
    have s12 := s1.trans s2
    exact ⟨_, rfl, _, rfl, va, vb, a, b, _, _, _, _, _, n, m, rfl, ta.same s12, tb.same s12, PA, PB, hn, hm, fun p H3 s3 tp => q p H3 (s12.trans s3) tp⟩
theorem ok_m_between {f : Addr} {fd : FuncData} (F : Fun K "between" "between" sBetween f fd) (H_check_point : Has P w K mg base "check_point" n_value 4 (spChkP K)) (H_check_fraction : Has P w K mg base "check_fraction" n_value 4 (spChkF K)) (H_place_between : Has P w K mg base "place_between" p_pof 3 (spPPF K)) : FnOk P w K mg base CX0 5 f fd p_pof (spPPF K) := by
  have sc : FnScope p_pof p_pof (defScope sBetween) := ⟨rfl, rfl, rfl, by decide +kernel, rfl, by decide +kernel, by decide +kernel⟩
  refine F.ok sc (fun vs H Q E h => ?_) (fun cdv A outer s H vs Q E hr h => ?_)
  · obtain ⟨_, _, _, _, _, _, _, _, _, _, _, _, _, _, rfl, _⟩ := h
    rfl
  · obtain ⟨va, vb, vc, a, b, c, x, y, w, x', y', w', t, e, rfl, ta, tb, tc, PA, PB, PC, q⟩ := h
    refine ⟨_, (pss_cons (ps_expr (pe_has H_check_point (hr.mono (by decide)) (by rfl) (pa_cons (pv 0) pa_nil)))
      (pss_cons (ps_expr (pe_has H_check_point (hr.mono (by decide)) (by rfl) (pa_cons (pv 1) pa_nil)))
      (pss_cons (ps_expr (pe_has H_check_fraction (hr.mono (by decide)) (by rfl) (pa_cons (pv 2) pa_nil)))
      (pss_one (ps_ret (pe_has H_place_between (hr.mono (by decide)) (by rfl) (pa_cons (pv 0) (pa_cons (pv 1) (pa_cons (pv 2) pa_nil))))))))), ?_⟩
    refine ⟨_, rfl, va, a, x, y, w, 100, rfl, ta, PA, by decide, fun H1 s1 => ⟨_, rfl, vb, b, x', y', w', 100, rfl, tb.same s1, PB, by decide, fun H2 s2 => ⟨_, rfl, vc, c, t, e, 100, rfl, (tc.same s1).same s2, PC, by decide, fun H3 s3 => ?_⟩⟩⟩
    have s13 := (s1.trans s2).trans s3
    exact ⟨_, rfl, _, rfl, _, rfl, va, vb, vc, a, b, c, _, _, _, _, _, _, _, _, rfl, ta.same s13, tb.same s13, tc.same s13, PA, PB, PC, fun p H4 s4 tp => q p H4 (s13.trans s4) tp⟩
theorem ok_m_quarter {f : Addr} {fd : FuncData} (F : Fun K "quarter" "quarter" sQuarter f fd) (H_check_point : Has P w K mg base "check_point" n_value 4 (spChkP K)) (H_quarter_of : Has P w K mg base "quarter_of" p_p 1 (spP1 K qtrL)) : FnOk P w K mg base CX0 5 f fd p_p (spP1 K qtrL) := by
  have sc : FnScope p_p p_p (defScope sQuarter) := ⟨rfl, rfl, rfl, by decide +kernel, rfl, by decide +kernel, by decide +kernel⟩
  refine F.ok sc (fun vs H Q E h => ?_) (fun cdv A outer s H vs Q E hr h => ?_)
  · obtain ⟨_, _, _, _, _, _, rfl, _⟩ := h
    rfl
  · obtain ⟨va, a, x, y, w, n, rfl, ta, PA, hn, q⟩ := h
    refine ⟨_, (pss_cons (ps_expr (pe_has H_check_point (hr.mono (by decide)) (by rfl) (pa_cons (pv 0) pa_nil)))
      (pss_one (ps_ret (pe_has H_quarter_of (hr.mono (by decide)) (by rfl) (pa_cons (pv 0) pa_nil))))), ?_⟩
    exact ⟨_, rfl, va, a, x, y, w, n, rfl, ta, PA, hn, fun H1 s1 => ⟨_, rfl, va, a, x, y, w, n, rfl, ta.same s1, PA, hn, fun p H2 s2 tp => q p H2 (s1.trans s2) tp⟩⟩
theorem ok_m_sense {f : Addr} {fd : FuncData} (F : Fun K "sense" "sense" sSense f fd) (H_check_point : Has P w K mg base "check_point" n_value 4 (spChkP K)) (H_side_of : Has P w K mg base "side_of" p_pot 2 (spSide K)) : FnOk P w K mg base CX0 5 f fd p_pot (spSide K) := by
  have sc : FnScope p_pot p_pot (defScope sSense) := ⟨rfl, rfl, rfl, by decide +kernel, rfl, by decide +kernel, by decide +kernel⟩
  refine F.ok sc (fun vs H Q E h => ?_) (fun cdv A outer s H vs Q E hr h => ?_)
  · obtain ⟨_, _, _, _, _, _, _, _, _, _, _, _, _, _, _, _, _, _, rfl, _⟩ := h
    rfl
  · obtain ⟨va, vb, vc, a, b, c, x, y, w, x', y', w', p, q', r, n, m, l, rfl, ta, tb, tc, PA, PB, PC, hn, hm, hl, q⟩ := h
    refine ⟨_, (pss_cons (ps_expr (pe_has H_check_point (hr.mono (by decide)) (by rfl) (pa_cons (pv 0) pa_nil)))
      (pss_cons (ps_expr (pe_has H_check_point (hr.mono (by decide)) (by rfl) (pa_cons (pv 1) pa_nil)))
      (pss_cons (ps_expr (pe_has H_check_point (hr.mono (by decide)) (by rfl) (pa_cons (pv 2) pa_nil)))
      (pss_one (ps_ret (pe_has H_side_of (hr.mono (by decide)) (by rfl) (pa_cons (pv 0) (pa_cons (pv 1) (pa_cons (pv 2) pa_nil))))))))), ?_⟩
    refine ⟨_, rfl, va, a, x, y, w, n, rfl, ta, PA, le40 hn, fun H1 s1 => ⟨_, rfl, vb, b, x', y', w', m, rfl, tb.same s1, PB, le40 hm, fun H2 s2 => ⟨_, rfl, vc, c, p, q', r, l, rfl, (tc.same s1).same s2, PC, le40 hl, fun H3 s3 => ?_⟩⟩⟩
    have s13 := (s1.trans s2).trans s3
    exact ⟨_, rfl, _, rfl, _, rfl, va, vb, vc, a, b, c, _, _, _, _, _, _, _, _, _, n, m, l, rfl, ta.same s13, tb.same s13, tc.same s13, PA, PB, PC, hn, hm, hl, fun H4 s4 => q H4 (s13.trans s4)⟩
end
end K3

namespace K3
open PySem L2 Ur
section
variable {P : Program} {w : World} {K :
      PySem.W.Frag} {mg : Str → Option Value} {base : Heap}
abbrev n_lfrac : List Str := ["_law_top", "_law_bottom", "_law_low"]
abbrev p_lfrac : List Str := ["_law_top", "_law_bottom"]
theorem sc_lfrac : FnScope n_lfrac p_lfrac (defScope sLFrac) := ⟨rfl, rfl, rfl, by decide +kernel, rfl, by decide +kernel, by decide +kernel⟩
theorem ok_lfrac {f : Addr} {fd : FuncData} (F : Fun K "_law_frac" "_law_frac" sLFrac f fd) (H_law_thin : Has P w K mg base "_law_thin" p_law_thin 2 (spThin K)) : FnOk P w K mg base CX0 3 f fd p_lfrac (spN2 K) := by
  refine F.ok sc_lfrac (fun vs H Q E h => ?_) (fun cdv A outer s H vs Q E hr h => ?_)
  · obtain ⟨x, w, rfl, _⟩ := h
    rfl
  · obtain ⟨x, w, rfl, w0, bx, bw, q⟩ := h
    refine ⟨_, (pss_cons (ps_set (i := 2) sc_lfrac.nd rfl (Or.inl rfl) (pe_has H_law_thin (hr.mono (by decide)) (by rfl) (pa_cons (pe_tup (pa_cons (pv 0) (pa_cons (pv 1) pa_nil))) pa_nil)))
      (pss_one (ps_ret (pe_ifExp (pt_cmpR op_gt (pe_ix (r := rIxT K) ix_tup (pv 2) pe_int (fun _ _ => rfl)) pe_int (nomark _)) (pv 2) (pe_tup (pa_cons (pe_un un_neg (pe_ix (r := rIxT K) ix_tup (pv 2) pe_int (fun _ _ => rfl))) (pa_cons (pe_un un_neg (pe_ix (r := rIxT K) ix_tup (pv 2) pe_int (fun _ _ => rfl))) pa_nil))))))), ?_⟩
    refine ⟨_, rfl, _, rfl, by show 2 ≤ sizeLine; decide, fun p hp => ⟨p, [x, w], rfl, SqT.of upd_same, by simp, fun n hn => ?_, fun p2 H2 s2 t2 => ?_⟩⟩
    · simp only [List.mem_cons, List.not_mem_nil, or_false] at hn
      rcases hn with rfl | rfl
      · exact b100 bx
      · exact b100 bw
    · obtain ⟨g, p', r', g0, e1, e2, e3, _⟩ := thin2 (x := x) w0
      have r0 := pos_of g0 (e2 ▸ w0)
      have s12 := (same_new (p := p) (o := HO.tup [V.int x, V.int w]) hp).trans s2
      have t3 := t2
      rw [e3] at t3
      refine ⟨_, rfl, p2, _, 1, _, rfl, rfl, t3, rfl, _, _, rfl, rfl, _, rfl, ?_⟩
      refine ite2 (fun _ => ?_) (fun c => absurd (decide_eq_true r0) c)
      exact ⟨_, rfl, q _ H2 s12 ⟨p2, rfl, t2⟩⟩
abbrev p_lnum : List Str := ["_law_number"]
theorem sc_lsign : FnScope p_lnum p_lnum (defScope sLSign) := ⟨rfl, rfl, rfl, by decide +kernel, rfl, by decide +kernel, by decide +kernel⟩
theorem ok_lsign {f : Addr} {fd : FuncData} (F : Fun K "_law_sign" "_law_sign" sLSign f fd) (T : Bl mg) : FnOk P w K mg base CX0 1 f fd p_lnum spSgn := by
  refine F.ok sc_lsign (fun vs H Q E h => ?_) (fun cdv A outer s H vs Q E hr h => ?_)
  · obtain ⟨n, rfl, _⟩ := h
    rfl
  · obtain ⟨n, rfl, q⟩ := h
    refine ⟨_, (pss_one (ps_ret (pe_op op_sub (pe_callTy call_int1 (by rfl) T.int PyProof.Rows.boot_int (pa_cons (pe_cmpR op_gt (pv 0) pe_int (nomark _)) pa_nil)) (pe_callTy call_int1 (by rfl) T.int PyProof.Rows.boot_int (pa_cons (pe_cmpR op_lt (pv 0) pe_int (nomark _)) pa_nil))))), ?_⟩
    refine ⟨_, rfl, _, _, rfl, rfl, Or.inr ⟨_, rfl, _, rfl, _, _, rfl, rfl, Or.inr ⟨_, rfl, _, _, rfl, rfl, ?_⟩⟩⟩
    have e : sgn n = (if decide (0 < n) = true then 1 else 0) - (if decide (n < 0) = true then 1 else 0) := by
      unfold sgn
      by_cases h1 : 0 < n
      · rw [if_pos h1, decide_eq_true h1, decide_eq_false (by omega)]
        rfl
      · by_cases h2 : n < 0
        · rw [if_neg h1, if_pos h2, decide_eq_false h1, decide_eq_true h2]
          rfl
        · rw [if_neg h1, if_neg h2, decide_eq_false h1, decide_eq_false h2]
          rfl
    rw [e] at q
    exact q
abbrev p_lspot : List Str := ["_law_x", "_law_y", "_law_w"]
theorem sc_lspot : FnScope p_lspot p_lspot (defScope sLSpot) := ⟨rfl, rfl, rfl, by decide +kernel, rfl, by decide +kernel, by decide +kernel⟩
theorem ok_lspot {f : Addr} {fd : FuncData} (F : Fun K "_law_spot" "_law_spot" sLSpot f fd) (H_law_thin : Has P w K mg base "_law_thin" p_law_thin 2 (spThin K)) : FnOk P w K mg base CX0 3 f fd p_lspot (spN3 K) := by
  refine F.ok sc_lspot (fun vs H Q E h => ?_) (fun cdv A outer s H vs Q E hr h => ?_)
  · obtain ⟨x, y, w, rfl, _⟩ := h
    rfl
  · obtain ⟨x, y, w, rfl, w0, bx, bby, bw, q⟩ := h
    refine ⟨_, (pss_one (ps_ret (pe_has H_law_thin (hr.mono (by decide)) (by rfl) (pa_cons (pe_tup (pa_cons (pv 0) (pa_cons (pv 1) (pa_cons (pv 2) pa_nil)))) pa_nil)))), ?_⟩
    refine ⟨_, rfl, _, rfl, _, rfl, by show 3 ≤ sizeLine; decide, fun p hp => ⟨p, [x, y, w], rfl, SqT.of upd_same, by simp, fun n hn => ?_, fun p2 H2 s2 t2 => q _ H2 ((same_new hp).trans s2) ⟨p2, rfl, t2⟩⟩⟩
    simp only [List.mem_cons, List.not_mem_nil, or_false] at hn
    rcases hn with rfl | rfl | rfl
    · exact b100 bx
    · exact b100 bby
    · exact b100 bw
abbrev p_lway : List Str := ["_law_spot_here", "_law_goal"]
abbrev p_lon : List Str := ["_law_spot_here", "_law_step"]
abbrev p_lby : List Str := ["_law_step", "_law_part"]
abbrev p_lsg : List Str := ["_law_step", "_law_goal"]
theorem sc_sLWay : FnScope p_lway p_lway (defScope sLWay) := ⟨rfl, rfl, rfl, by decide +kernel, rfl, by decide +kernel, by decide +kernel⟩
theorem ok_sLWay {f : Addr} {fd : FuncData} (F : Fun K "_law_way" "_law_way" sLWay f fd) (H_law_spot : Has P w K mg base "_law_spot" p_lspot 3 (spN3 K)) : FnOk P w K mg base CX0 4 f fd p_lway (spP2 K wayL) := by
  refine F.ok sc_sLWay (fun vs H Q E h => ?_) (fun cdv A outer s H vs Q E hr h => ?_)
  · obtain ⟨_, _, _, _, _, _, _, _, _, _, _, _, rfl, _⟩ := h
    rfl
  · obtain ⟨va, vb, a, b, x, y, w, x', y', w', n, m, rfl, ⟨ta, rfl, sa⟩, ⟨tb, rfl, sb⟩, PA, PB, hn, hm, q⟩ := h
    have ea := PA.eq
    have eb := PB.eq
    subst ea eb
    refine ⟨_, (pss_one (ps_ret (pe_has H_law_spot (hr.mono (by decide)) (by rfl) (pa_cons (pe_op op_sub (pe_op op_mul (pe_ix (r := rIxT K) ix_tup (pv 1) pe_int (fun _ _ => rfl)) (pe_ix (r := rIxT K) ix_tup (pv 0) pe_int (fun _ _ => rfl))) (pe_op op_mul (pe_ix (r := rIxT K) ix_tup (pv 0) pe_int (fun _ _ => rfl)) (pe_ix (r := rIxT K) ix_tup (pv 1) pe_int (fun _ _ => rfl)))) (pa_cons (pe_op op_sub (pe_op op_mul (pe_ix (r := rIxT K) ix_tup (pv 1) pe_int (fun _ _ => rfl)) (pe_ix (r := rIxT K) ix_tup (pv 0) pe_int (fun _ _ => rfl))) (pe_op op_mul (pe_ix (r := rIxT K) ix_tup (pv 0) pe_int (fun _ _ => rfl)) (pe_ix (r := rIxT K) ix_tup (pv 1) pe_int (fun _ _ => rfl)))) (pa_cons (pe_op op_mul (pe_ix (r := rIxT K) ix_tup (pv 0) pe_int (fun _ _ => rfl)) (pe_ix (r := rIxT K) ix_tup (pv 1) pe_int (fun _ _ => rfl))) pa_nil)))))), ?_⟩
    refine ⟨_, rfl, tb, _, 0, _, rfl, rfl, sb, rfl, _, rfl, ta, _, 2, _, rfl, rfl, sa, rfl, _, _, rfl, rfl, Or.inl (lt64 PB.bx hm), _, rfl, ta, _, 0, _, rfl, rfl, sa, rfl, _, rfl, tb, _, 2, _, rfl, rfl, sb, rfl, _, _, rfl, rfl, Or.inl (lt64 PA.bx hn), _, _, rfl, rfl, _, rfl, tb, _, 1, _, rfl, rfl, sb, rfl, _, rfl, ta, _, 2, _, rfl, rfl, sa, rfl, _, _, rfl, rfl, Or.inl (lt64 PB.bby hm), _, rfl, ta, _, 1, _, rfl, rfl, sa, rfl, _, rfl, tb, _, 2, _, rfl, rfl, sb, rfl, _, _, rfl, rfl, Or.inl (lt64 PA.bby hn), _, _, rfl, rfl, _, rfl, ta, _, 2, _, rfl, rfl, sa, rfl, _, rfl, tb, _, 2, _, rfl, rfl, sb, rfl, _, _, rfl, rfl, Or.inl (lt64 PA.bw hn), ?_⟩
    have h2 := two80 hm hn
    exact ⟨_, _, _, rfl, Int.mul_pos PA.pos PB.pos, le100 (subb (mulb PB.bx PA.bw) (mulb PA.bx PB.bw)) h2, le100 (subb (mulb PB.bby PA.bw) (mulb PA.bby PB.bw)) h2, le100 (mulb PA.bw PB.bw) (Nat.le_trans (Nat.le_add_left _ _) h2), fun p H' s' tp => q p H' s' tp⟩
theorem sc_sLOn : FnScope p_lon p_lon (defScope sLOn) := ⟨rfl, rfl, rfl, by decide +kernel, rfl, by decide +kernel, by decide +kernel⟩
theorem ok_sLOn {f : Addr} {fd : FuncData} (F : Fun K "_law_on" "_law_on" sLOn f fd) (H_law_spot : Has P w K mg base "_law_spot" p_lspot 3 (spN3 K)) : FnOk P w K mg base CX0 4 f fd p_lon (spP2 K sumL) := by
  refine F.ok sc_sLOn (fun vs H Q E h => ?_) (fun cdv A outer s H vs Q E hr h => ?_)
  · obtain ⟨_, _, _, _, _, _, _, _, _, _, _, _, rfl, _⟩ := h
    rfl
  · obtain ⟨va, vb, a, b, x, y, w, x', y', w', n, m, rfl, ⟨ta, rfl, sa⟩, ⟨tb, rfl, sb⟩, PA, PB, hn, hm, q⟩ := h
    have ea := PA.eq
    have eb := PB.eq
    subst ea eb
    refine ⟨_, (pss_one (ps_ret (pe_has H_law_spot (hr.mono (by decide)) (by rfl) (pa_cons (pe_op op_add (pe_op op_mul (pe_ix (r := rIxT K) ix_tup (pv 0) pe_int (fun _ _ => rfl)) (pe_ix (r := rIxT K) ix_tup (pv 1) pe_int (fun _ _ => rfl))) (pe_op op_mul (pe_ix (r := rIxT K) ix_tup (pv 1) pe_int (fun _ _ => rfl)) (pe_ix (r := rIxT K) ix_tup (pv 0) pe_int (fun _ _ => rfl)))) (pa_cons (pe_op op_add (pe_op op_mul (pe_ix (r := rIxT K) ix_tup (pv 0) pe_int (fun _ _ => rfl)) (pe_ix (r := rIxT K) ix_tup (pv 1) pe_int (fun _ _ => rfl))) (pe_op op_mul (pe_ix (r := rIxT K) ix_tup (pv 1) pe_int (fun _ _ => rfl)) (pe_ix (r := rIxT K) ix_tup (pv 0) pe_int (fun _ _ => rfl)))) (pa_cons (pe_op op_mul (pe_ix (r := rIxT K) ix_tup (pv 0) pe_int (fun _ _ => rfl)) (pe_ix (r := rIxT K) ix_tup (pv 1) pe_int (fun _ _ => rfl))) pa_nil)))))), ?_⟩
    refine ⟨_, rfl, ta, _, 0, _, rfl, rfl, sa, rfl, _, rfl, tb, _, 2, _, rfl, rfl, sb, rfl, _, _, rfl, rfl, Or.inl (lt64 PA.bx hn), _, rfl, tb, _, 0, _, rfl, rfl, sb, rfl, _, rfl, ta, _, 2, _, rfl, rfl, sa, rfl, _, _, rfl, rfl, Or.inl (lt64 PB.bx hm), _, _, rfl, rfl, _, rfl, ta, _, 1, _, rfl, rfl, sa, rfl, _, rfl, tb, _, 2, _, rfl, rfl, sb, rfl, _, _, rfl, rfl, Or.inl (lt64 PA.bby hn), _, rfl, tb, _, 1, _, rfl, rfl, sb, rfl, _, rfl, ta, _, 2, _, rfl, rfl, sa, rfl, _, _, rfl, rfl, Or.inl (lt64 PB.bby hm), _, _, rfl, rfl, _, rfl, ta, _, 2, _, rfl, rfl, sa, rfl, _, rfl, tb, _, 2, _, rfl, rfl, sb, rfl, _, _, rfl, rfl, Or.inl (lt64 PA.bw hn), ?_⟩
    have h2 := two80 hn hm
    exact ⟨_, _, _, rfl, Int.mul_pos PA.pos PB.pos, le100 (addb (mulb PA.bx PB.bw) (mulb PB.bx PA.bw)) h2, le100 (addb (mulb PA.bby PB.bw) (mulb PB.bby PA.bw)) h2, le100 (mulb PA.bw PB.bw) (Nat.le_trans (Nat.le_add_right _ _) h2), fun p H' s' tp => q p H' s' tp⟩
theorem sc_sLCross : FnScope p_lsg p_lsg (defScope sLCross) := ⟨rfl, rfl, rfl, by decide +kernel, rfl, by decide +kernel, by decide +kernel⟩
theorem ok_sLCross {f : Addr} {fd : FuncData} (F : Fun K "_law_cross" "_law_cross" sLCross f fd) (H_law_frac : Has P w K mg base "_law_frac" p_lfrac 3 (spN2 K)) : FnOk P w K mg base CX0 4 f fd p_lsg (spP2 K crsL) := by
  refine F.ok sc_sLCross (fun vs H Q E h => ?_) (fun cdv A outer s H vs Q E hr h => ?_)
  · obtain ⟨_, _, _, _, _, _, _, _, _, _, _, _, rfl, _⟩ := h
    rfl
  · obtain ⟨va, vb, a, b, x, y, w, x', y', w', n, m, rfl, ⟨ta, rfl, sa⟩, ⟨tb, rfl, sb⟩, PA, PB, hn, hm, q⟩ := h
    have ea := PA.eq
    have eb := PB.eq
    subst ea eb
    refine ⟨_, (pss_one (ps_ret (pe_has H_law_frac (hr.mono (by decide)) (by rfl) (pa_cons (pe_op op_sub (pe_op op_mul (pe_ix (r := rIxT K) ix_tup (pv 0) pe_int (fun _ _ => rfl)) (pe_ix (r := rIxT K) ix_tup (pv 1) pe_int (fun _ _ => rfl))) (pe_op op_mul (pe_ix (r := rIxT K) ix_tup (pv 0) pe_int (fun _ _ => rfl)) (pe_ix (r := rIxT K) ix_tup (pv 1) pe_int (fun _ _ => rfl)))) (pa_cons (pe_op op_mul (pe_ix (r := rIxT K) ix_tup (pv 0) pe_int (fun _ _ => rfl)) (pe_ix (r := rIxT K) ix_tup (pv 1) pe_int (fun _ _ => rfl))) pa_nil))))), ?_⟩
    refine ⟨_, rfl, ta, _, 0, _, rfl, rfl, sa, rfl, _, rfl, tb, _, 1, _, rfl, rfl, sb, rfl, _, _, rfl, rfl, Or.inl (lt64 PA.bx hn), _, rfl, ta, _, 1, _, rfl, rfl, sa, rfl, _, rfl, tb, _, 0, _, rfl, rfl, sb, rfl, _, _, rfl, rfl, Or.inl (lt64 PA.bby hn), _, _, rfl, rfl, _, rfl, ta, _, 2, _, rfl, rfl, sa, rfl, _, rfl, tb, _, 2, _, rfl, rfl, sb, rfl, _, _, rfl, rfl, Or.inl (lt64 PA.bw hn), ?_⟩
    have h3 := sq80 hn hm
    exact ⟨_, _, rfl, Int.mul_pos PA.pos PB.pos, le100 (subb (mulb PA.bx PB.bby) (mulb PA.bby PB.bx)) (Nat.le_trans (Nat.add_le_add h3 h3) (by decide)), le100 (mulb PA.bw PB.bw) (Nat.le_trans h3 (by decide)), fun p H' s' tp => q p H' s' tp⟩
theorem sc_sLDot : FnScope p_lsg p_lsg (defScope sLDot) := ⟨rfl, rfl, rfl, by decide +kernel, rfl, by decide +kernel, by decide +kernel⟩
theorem ok_sLDot {f : Addr} {fd : FuncData} (F : Fun K "_law_dot" "_law_dot" sLDot f fd) (H_law_frac : Has P w K mg base "_law_frac" p_lfrac 3 (spN2 K)) : FnOk P w K mg base CX0 4 f fd p_lsg (spP2 K innL) := by
  refine F.ok sc_sLDot (fun vs H Q E h => ?_) (fun cdv A outer s H vs Q E hr h => ?_)
  · obtain ⟨_, _, _, _, _, _, _, _, _, _, _, _, rfl, _⟩ := h
    rfl
  · obtain ⟨va, vb, a, b, x, y, w, x', y', w', n, m, rfl, ⟨ta, rfl, sa⟩, ⟨tb, rfl, sb⟩, PA, PB, hn, hm, q⟩ := h
    have ea := PA.eq
    have eb := PB.eq
    subst ea eb
    refine ⟨_, (pss_one (ps_ret (pe_has H_law_frac (hr.mono (by decide)) (by rfl) (pa_cons (pe_op op_add (pe_op op_mul (pe_ix (r := rIxT K) ix_tup (pv 0) pe_int (fun _ _ => rfl)) (pe_ix (r := rIxT K) ix_tup (pv 1) pe_int (fun _ _ => rfl))) (pe_op op_mul (pe_ix (r := rIxT K) ix_tup (pv 0) pe_int (fun _ _ => rfl)) (pe_ix (r := rIxT K) ix_tup (pv 1) pe_int (fun _ _ => rfl)))) (pa_cons (pe_op op_mul (pe_ix (r := rIxT K) ix_tup (pv 0) pe_int (fun _ _ => rfl)) (pe_ix (r := rIxT K) ix_tup (pv 1) pe_int (fun _ _ => rfl))) pa_nil))))), ?_⟩
    refine ⟨_, rfl, ta, _, 0, _, rfl, rfl, sa, rfl, _, rfl, tb, _, 0, _, rfl, rfl, sb, rfl, _, _, rfl, rfl, Or.inl (lt64 PA.bx hn), _, rfl, ta, _, 1, _, rfl, rfl, sa, rfl, _, rfl, tb, _, 1, _, rfl, rfl, sb, rfl, _, _, rfl, rfl, Or.inl (lt64 PA.bby hn), _, _, rfl, rfl, _, rfl, ta, _, 2, _, rfl, rfl, sa, rfl, _, rfl, tb, _, 2, _, rfl, rfl, sb, rfl, _, _, rfl, rfl, Or.inl (lt64 PA.bw hn), ?_⟩
    have h3 := sq80 hn hm
    exact ⟨_, _, rfl, Int.mul_pos PA.pos PB.pos, le100 (addb (mulb PA.bx PB.bx) (mulb PA.bby PB.bby)) (Nat.le_trans (Nat.add_le_add h3 h3) (by decide)), le100 (mulb PA.bw PB.bw) (Nat.le_trans h3 (by decide)), fun p H' s' tp => q p H' s' tp⟩
theorem sc_lby : FnScope p_lby p_lby (defScope sLBy) := ⟨rfl, rfl, rfl, by decide +kernel, rfl, by decide +kernel, by decide +kernel⟩
theorem ok_lby {f : Addr} {fd : FuncData} (F : Fun K "_law_by" "_law_by" sLBy f fd) (H_law_spot : Has P w K mg base "_law_spot" p_lspot 3 (spN3 K)) : FnOk P w K mg base CX0 4 f fd p_lby (spPF K byL) := by
  refine F.ok sc_lby (fun vs H Q E h => ?_) (fun cdv A outer s H vs Q E hr h => ?_)
  · obtain ⟨_, _, _, _, _, _, _, _, _, _, _, rfl, _⟩ := h
    rfl
  · obtain ⟨va, vb, a, b, x, y, w, t, e, n, m, rfl, ⟨ta, rfl, sa⟩, ⟨tb, rfl, sb⟩, PA, PB, hn, hm, q⟩ := h
    have ea := PA.eq
    have eb := PB.eq
    subst ea eb
    refine ⟨_, (pss_one (ps_ret (pe_has H_law_spot (hr.mono (by decide)) (by rfl) (pa_cons (pe_op op_mul (pe_ix (r := rIxT K) ix_tup (pv 0) pe_int (fun _ _ => rfl)) (pe_ix (r := rIxT K) ix_tup (pv 1) pe_int (fun _ _ => rfl))) (pa_cons (pe_op op_mul (pe_ix (r := rIxT K) ix_tup (pv 0) pe_int (fun _ _ => rfl)) (pe_ix (r := rIxT K) ix_tup (pv 1) pe_int (fun _ _ => rfl))) (pa_cons (pe_op op_mul (pe_ix (r := rIxT K) ix_tup (pv 0) pe_int (fun _ _ => rfl)) (pe_ix (r := rIxT K) ix_tup (pv 1) pe_int (fun _ _ => rfl))) pa_nil)))))), ?_⟩
    refine ⟨_, rfl, ta, _, 0, _, rfl, rfl, sa, rfl, _, rfl, tb, _, 0, _, rfl, rfl, sb, rfl, _, _, rfl, rfl, Or.inl (lt64 PA.bx hn), _, rfl, ta, _, 1, _, rfl, rfl, sa, rfl, _, rfl, tb, _, 0, _, rfl, rfl, sb, rfl, _, _, rfl, rfl, Or.inl (lt64 PA.bby hn), _, rfl, ta, _, 2, _, rfl, rfl, sa, rfl, _, rfl, tb, _, 1, _, rfl, rfl, sb, rfl, _, _, rfl, rfl, Or.inl (lt64 PA.bw hn), ?_⟩
    have h2 : n * m ≤ 2 ^ 90 := Nat.le_trans (sq80 hn hm) (by decide)
    exact ⟨_, _, _, rfl, Int.mul_pos PA.pos PB.pos, le100 (mulb PA.bx PB.bt) h2, le100 (mulb PA.bby PB.bt) h2, le100 (mulb PA.bw PB.bb) h2, fun p H' s' tp => q p H' s' tp⟩
abbrev p_lstep : List Str := ["_law_step"]
theorem sc_lquarter : FnScope p_lstep p_lstep (defScope sLQuarter) := ⟨rfl, rfl, rfl, by decide +kernel, rfl, by decide +kernel, by decide +kernel⟩
theorem ok_lquarter {f : Addr} {fd : FuncData} (F : Fun K "_law_quarter" "_law_quarter" sLQuarter f fd) : FnOk P w K mg base CX0 1 f fd p_lstep (spP1 K qtrL) := by
  refine F.ok sc_lquarter (fun vs H Q E h => ?_) (fun cdv A outer s H vs Q E hr h => ?_)
  · obtain ⟨_, _, _, _, _, _, rfl, _⟩ := h
    rfl
  · obtain ⟨va, a, x, y, w, n, rfl, ⟨ta, rfl, sa⟩, PA, hn, q⟩ := h
    have ea := PA.eq
    subst ea
    refine ⟨_, (pss_one (ps_ret (pe_tup (pa_cons (pe_un un_neg (pe_ix (r := rIxT K) ix_tup (pv 0) pe_int (fun _ _ => rfl))) (pa_cons (pe_ix (r := rIxT K) ix_tup (pv 0) pe_int (fun _ _ => rfl)) (pa_cons (pe_ix (r := rIxT K) ix_tup (pv 0) pe_int (fun _ _ => rfl)) pa_nil)))))), ?_⟩
    refine ⟨_, rfl, ta, _, 1, _, rfl, rfl, sa, rfl, _, rfl, _, rfl, ta, _, 0, _, rfl, rfl, sa, rfl, _, rfl, ta, _, 2, _, rfl, rfl, sa, rfl, by show 3 ≤ sizeLine; decide, fun p hp => ?_⟩
    exact q _ _ (same_new hp) ⟨p, rfl, SqT.of upd_same⟩
abbrev p_lside : List Str := ["_law_spot_here", "_law_goal", "_law_mate"]
theorem sc_lside : FnScope p_lside p_lside (defScope sLSide) := ⟨rfl, rfl, rfl, by decide +kernel, rfl, by decide +kernel, by decide +kernel⟩
def spLSide (K : PySem.W.Frag) : Sp := fun vs H Q _ => ∃ (v v' v'' : V) (a b c : List Int) (x y w x' y' w' p q r : Int) (l : Nat), vs = [v, v', v''] ∧ Tp K H v a ∧ Tp K H v' b ∧ Tp K H v'' c ∧ PtL 100 a x y w ∧ PtL 100 b x' y' w' ∧ PtL l c p q r ∧ l ≤ 2 ^ 30 ∧
  ∀ H', Same H H' → Q (.int (sidL a b c)) H'
theorem ok_lside {f : Addr} {fd : FuncData} (F : Fun K "_law_side" "_law_side" sLSide f fd) (H_law_way : Has P w K mg base "_law_way" p_lway 4 (spP2 K wayL)) (H_law_cross : Has P w K mg base "_law_cross" p_lsg 4 (spP2 K crsL)) (H_law_sign : Has P w K mg base "_law_sign" p_lnum 1 spSgn) : FnOk P w K mg base CX0 5 f fd p_lside (spLSide K) := by
  refine F.ok sc_lside (fun vs H Q E h => ?_) (fun cdv A outer s H vs Q E hr h => ?_)
  · obtain ⟨_, _, _, _, _, _, _, _, _, _, _, _, _, _, _, _, rfl, _⟩ := h
    rfl
  · obtain ⟨va, vb, vc, a, b, c, x, y, w, x', y', w', p, q', r, l, rfl, ta, tb, tc, PA, PB, PC, hl, q⟩ := h
    refine ⟨_, (pss_one (ps_ret (pe_has H_law_sign (hr.mono (by decide)) (by rfl) (pa_cons (pe_ix (r := rIxT K) ix_tup (pe_has H_law_cross (hr.mono (by decide)) (by rfl) (pa_cons (pe_has H_law_way (hr.mono (by decide)) (by rfl) (pa_cons (pv 0) (pa_cons (pv 1) pa_nil))) (pa_cons (pe_has H_law_way (hr.mono (by decide)) (by rfl) (pa_cons (pv 0) (pa_cons (pv 2) pa_nil))) pa_nil))) pe_int (fun _ _ => rfl)) pa_nil)))), ?_⟩
    obtain ⟨_, _, _, _, _, _, _, _, W1⟩ := pt_way PA PB
    obtain ⟨_, _, _, _, _, _, _, _, W2⟩ := pt_way PA PC
    obtain ⟨t, e, e1, e2⟩ := side_is PA PB PC
    refine ⟨_, rfl, _, rfl, va, vb, a, b, _, _, _, _, _, _, _, _, rfl, ta, tb, PA, PB, by decide, by decide, fun p1 H1 s1 t1 => ⟨_, rfl, _, rfl, va, vc, a, c, _, _, _, _, _, _, _, _, rfl, ta.same s1, tc.same s1, PA, PC, by decide, Nat.le_trans hl (by decide), fun p2 H2 s2 t2 => ?_⟩⟩
    refine ⟨_, _, _, _, _, _, _, _, _, _, _, _, rfl, t1.same s2, t2, W1, W2, by decide, by omega, fun p3 H3 s3 t3 => ?_⟩
    rw [e1] at t3
    obtain ⟨t3, rfl, q3⟩ := t3
    refine ⟨t3, _, 0, _, rfl, rfl, q3, rfl, t, rfl, ?_⟩
    rw [e2]
    exact q H3 ((s1.trans s2).trans s3)
abbrev n_drawn : List Str := ["_law_urn_here", "_law_high"]
abbrev p_drawn : List Str := ["_law_urn_here"]
theorem sc_drawn : FnScope n_drawn p_drawn (defScope sDrawn) := ⟨rfl, rfl, rfl, by decide +kernel, rfl, by decide +kernel, by decide +kernel⟩
def spDrawn (K : PySem.W.Frag) : Sp := fun vs H Q _ => ∃ u : Addr, vs = [.ref u] ∧ H u = some (UrnO u) ∧ ∀ (p : V) (a : List Int) (x y w : Int) (H' : Hp), Same H H' → Tp K H' p a → PtL 100 a x y w → Q p H'
theorem ok_drawn {f : Addr} {fd : FuncData} (F : Fun K "_law_drawn" "_law_drawn" sDrawn f fd) (H_law_any : Has P w K mg base "_law_any" p_law_any 2 spAny) (H_law_num : Has P w K mg base "_law_num" p_law_num 2 spNum) (H_law_pull : Has P w K mg base "_law_pull" ["_law_urn_here", "_law_many"] 1 spPull)
    (H_law_spot : Has P w K mg base "_law_spot" p_lspot 3 (spN3 K)) : FnOk P w K mg base CX0 4 f fd p_drawn (spDrawn K) := by
  refine F.ok sc_drawn (fun vs H Q E h => ?_) (fun cdv A outer s H vs Q E hr h => ?_)
  · obtain ⟨u, rfl, _⟩ := h
    rfl
  · obtain ⟨u, rfl, hu, q⟩ := h
    refine ⟨_, (pss_cons (ps_set (i := 1) sc_drawn.nd rfl (Or.inl rfl) (pe_has H_law_any (hr.mono (by decide)) (by rfl) (pa_cons (pv 0) (pa_cons (pe_lst (pa_cons pe_int (pa_cons pe_int (pa_cons pe_int (pa_cons pe_int pa_nil))))) pa_nil))))
      (pss_one (ps_ret (pe_has H_law_spot (hr.mono (by decide)) (by rfl) (pa_cons (pe_has H_law_num (hr.mono (by decide)) (by rfl) (pa_cons (pv 0) (pa_cons (pv 1) pa_nil))) (pa_cons (pe_has H_law_num (hr.mono (by decide)) (by rfl) (pa_cons (pv 0) (pa_cons (pv 1) pa_nil))) (pa_cons (pe_op op_add pe_int (pe_has H_law_pull (hr.mono (by decide)) (by rfl) (pa_cons (pv 0) (pa_cons (pe_has H_law_any (hr.mono (by decide)) (by rfl) (pa_cons (pv 0) (pa_cons (pe_lst (pa_cons pe_int (pa_cons pe_int (pa_cons pe_int pa_nil)))) pa_nil))) pa_nil)))) pa_nil))))))), ?_⟩
    refine ⟨_, rfl, by show 4 ≤ sizeLine; decide, fun l hl => ⟨u, l, _, rfl, same_new hl _ _ hu, upd_same, by decide, by decide, fun x H1 hx s1 => ?_⟩⟩
    obtain ⟨h, rfl, h0, h1⟩ := menu (l := [1, 3, 10, 100]) (lo := 1) (hi := 100) hx (by decide)
    have s01 := (same_new (p := l) (o := HO.lst [V.int 1, .int 3, .int 10, .int 100]) hl).trans s1
    refine ⟨_, rfl, _, rfl, u, h, rfl, s01 _ _ hu, by omega, by omega, fun r H2 r0 r1 s2 => ?_⟩
    have s02 := s01.trans s2
    refine ⟨_, rfl, _, rfl, u, h, rfl, s02 _ _ hu, by omega, by omega, fun r' H3 r0' r1' s3 => ?_⟩
    have s03 := s02.trans s3
    refine ⟨_, rfl, _, rfl, by show 3 ≤ sizeLine; decide, fun l2 hl2 => ⟨u, l2, _, rfl, same_new hl2 _ _ (s03 _ _ hu), upd_same, by decide, by decide, fun x2 H4 hx2 s4 => ?_⟩⟩
    obtain ⟨m, rfl, m0, m1⟩ := menu (l := [1, 3, 12]) (lo := 1) (hi := 12) hx2 (by decide)
    have s04 := s03.trans ((same_new (p := l2) (o := HO.lst [V.int 1, .int 3, .int 12]) hl2).trans s4)
    refine ⟨u, m, rfl, s04 _ _ hu, by omega, by omega, fun k H5 k0 k1 s5 => ⟨_, _, rfl, rfl, r, r', 1 + k, rfl, by omega, ?_, ?_, ?_, fun p H6 s6 t6 => ?_⟩⟩
    · exact Nat.le_trans (by omega : r.natAbs ≤ 100) (by decide)
    · exact Nat.le_trans (by omega : r'.natAbs ≤ 100) (by decide)
    · exact Nat.le_trans (by omega : (1 + k).natAbs ≤ 100) (by decide)
    · obtain ⟨_, _, _, _, _, _, _, _, PT⟩ := pt_thin (x := r) (y := r') (w := 1 + k) (n := 100) (by omega) (by omega) (by omega) (by omega)
      exact q p _ _ _ _ H6 ((s04.trans s5).trans s6) t6 PT
end
end K3

namespace K3
open PySem L2 Ur
section
variable {K : PySem.W.Frag} {H : Hp} {Q : VK} {E : XK} {v v' v'' : V} {a b c : List Int} {x y w x' y' w' p q r t e : Int} {n m l : Nat}
theorem go1 {f : List Int → List Int} (ta : Tp K H v a) (PA : PtL n a x y w) (hn : n ≤ 2 ^ 40) (k : ∀ p H', Same H H' → Tp K H' p (f a) → Q p H') : spP1 K f [v] H Q E := ⟨v, a, x, y, w, n, rfl, ta, PA, hn, k⟩
theorem go2 {f : List Int → List Int → List Int} (ta : Tp K H v a) (tb : Tp K H v' b) (PA : PtL n a x y w) (PB : PtL m b x' y' w') (hn : n ≤ 2 ^ 40) (hm : m ≤ 2 ^ 40) (k : ∀ p H', Same H H' → Tp K H' p (f a b) → Q p H') : spP2 K f [v, v'] H Q E :=
  ⟨v, v', a, b, x, y, w, x', y', w', n, m, rfl, ta, tb, PA, PB, hn, hm, k⟩
theorem goF {f : List Int → List Int → List Int} (ta : Tp K H v a) (tb : Tp K H v' b) (PA : PtL n a x y w) (PB : FrL m b t e) (hn : n ≤ 2 ^ 40) (hm : m ≤ 2 ^ 40) (k : ∀ p H', Same H H' → Tp K H' p (f a b) → Q p H') : spPF K f [v, v'] H Q E :=
  ⟨v, v', a, b, x, y, w, t, e, n, m, rfl, ta, tb, PA, PB, hn, hm, k⟩
theorem goB (ta : Tp K H v a) (tb : Tp K H v' b) (tc : Tp K H v'' c) (PA : PtL 100 a x y w) (PB : PtL 100 b x' y' w') (PC : FrL 100 c t e) (k : ∀ p H', Same H H' → Tp K H' p (betL a b c) → Q p H') : spPPF K [v, v', v''] H Q E :=
  ⟨v, v', v'', a, b, c, x, y, w, x', y', w', t, e, rfl, ta, tb, tc, PA, PB, PC, k⟩
theorem goS (ta : Tp K H v a) (tb : Tp K H v' b) (tc : Tp K H v'' c) (PA : PtL n a x y w) (PB : PtL m b x' y' w') (PC : PtL l c p q r) (hn : n ≤ 2 ^ 30) (hm : m ≤ 2 ^ 30) (hl : l ≤ 2 ^ 30) (k : ∀ H', Same H H' → Q (.int (sidL a b c)) H') : spSide K [v, v', v''] H Q E :=
  ⟨v, v', v'', a, b, c, x, y, w, x', y', w', p, q, r, n, m, l, rfl, ta, tb, tc, PA, PB, PC, hn, hm, hl, k⟩
theorem goL (ta : Tp K H v a) (tb : Tp K H v' b) (tc : Tp K H v'' c) (PA : PtL 100 a x y w) (PB : PtL 100 b x' y' w') (PC : PtL l c p q r) (hl : l ≤ 2 ^ 30) (k : ∀ H', Same H H' → Q (.int (sidL a b c)) H') : spLSide K [v, v', v''] H Q E :=
  ⟨v, v', v'', a, b, c, x, y, w, x', y', w', p, q, r, l, rfl, ta, tb, tc, PA, PB, PC, hl, k⟩
end
theorem pt_ok {a : List Int} {x y w : Int} {n : Nat} (h : PtL n a x y w) (hn : n < 10 ^ 12) : a.length ≤ 10 ∧ ∀ z ∈ a, z.natAbs < 10 ^ 12 := by
  have ea := h.eq
  subst ea
  refine ⟨by show 3 ≤ 10; decide, fun z hz => ?_⟩
  simp only [List.mem_cons, List.not_mem_nil, or_false] at hz
  rcases hz with rfl | rfl | rfl
  · exact Nat.lt_of_le_of_lt h.bx hn
  · exact Nat.lt_of_le_of_lt h.bby hn
  · exact Nat.lt_of_le_of_lt h.bw hn
theorem fr_ok {a : List Int} {x w : Int} {n : Nat} (h : FrL n a x w) (hn : n < 10 ^ 12) : a.length ≤ 10 ∧ ∀ z ∈ a, z.natAbs < 10 ^ 12 := by
  have ea := h.eq
  subst ea
  refine ⟨by show 2 ≤ 10; decide, fun z hz => ?_⟩
  simp only [List.mem_cons, List.not_mem_nil, or_false] at hz
  rcases hz with rfl | rfl
  · exact Nat.lt_of_le_of_lt h.bt hn
  · exact Nat.lt_of_le_of_lt h.bb hn
theorem sgn_le (n : Int) : (sgn n).natAbs < 10 ^ 12 := by
  unfold sgn
  split
  · decide
  · split <;> decide
theorem sid_le {a b c : List Int} : (sidL a b c).natAbs < 10 ^ 12 := by
  unfold sidL
  split
  · exact sgn_le _
  · decide
theorem qtr4 {a : List Int} {x y w : Int} {n : Nat} (A : PtL n a x y w) : qtrL (qtrL (qtrL (qtrL a))) = a := by
  have ea := A.eq
  subst ea
  show [- -x, - -y, w] = _
  rw [Int.neg_neg, Int.neg_neg]
theorem crs_qtr {a : List Int} {x y w : Int} {n : Nat} (A : PtL n a x y w) : crsL (qtrL a) a = innL [-x, -y, w] a := by
  have ea := A.eq
  subst ea
  show thin [-y * y - x * x, w * w] = thin [-x * x + -y * y, w * w]
  have : -y * y - x * x = -x * x + -y * y := by grind
  rw [this]
theorem pt_neg {a : List Int} {x y w : Int} {n : Nat} (A : PtL n a x y w) : PtL n [-x, -y, w] (-x) (-y) w :=
  ⟨rfl, A.pos, by rw [Int.natAbs_neg, Int.natAbs_neg]; exact A.red, by rw [Int.natAbs_neg]; exact A.bx, by rw [Int.natAbs_neg]; exact A.bby, A.bw⟩
theorem rep_facts {ds : List PyData} {n : Nat} (o : IntsOk ds n) (hn : n ≤ 1000000) : (PyData.list ds).showable = true ∧ (PyData.list ds).hasDict = false ∧ (PyData.list ds).shown.length ≤ sizeLine ∧ (PyData.list ds).depth ≤ 60 :=
  ⟨o.sh, o.hd, PyData.shown_fits (B := 13) (by decide) (by decide) o.ls (Nat.le_trans o.wt (Nat.le_trans hn (by decide))), by show PyData.depthAll ds + 1 ≤ 60; have := o.dp; omega⟩
/-- what the law's seven numbers are -/
def dueL (a b e : List Int) : List (List Int) := [sumL a b, wayL b a, byL a e, betL a b e, innL a b, crsL a b, qtrL a]
theorem due_ok {a b e : List Int} {x y w x' y' w' t d : Int} (PA : PtL 100 a x y w) (PB : PtL 100 b x' y' w') (PE : FrL 100 e t d) : IntsOk ((dueL a b e).map tupD) (411 * 7) := by
  refine tups_ok (nss := dueL a b e) fun ns h => ?_
  obtain ⟨_, _, _, _, _, _, _, _, S1⟩ := pt_sum PA PB
  obtain ⟨_, _, _, _, _, _, _, _, S2⟩ := pt_way PB PA
  obtain ⟨_, _, _, _, _, _, _, _, S3⟩ := pt_by PA PE
  obtain ⟨_, _, _, _, _, _, _, _, S4⟩ := pt_way PA PB
  obtain ⟨_, _, _, _, _, _, _, _, S5⟩ := pt_by S4 PE
  obtain ⟨_, _, _, _, _, _, _, _, S6⟩ := pt_sum PA S5
  obtain ⟨_, _, _, _, _, _, S7⟩ := fr_inn PA PB
  obtain ⟨_, _, _, _, _, _, S8⟩ := fr_crs PA PB
  simp only [dueL, List.mem_cons, List.not_mem_nil, or_false] at h
  rcases h with rfl | rfl | rfl | rfl | rfl | rfl | rfl
  · exact pt_ok S1 (by decide)
  · exact pt_ok S2 (by decide)
  · exact pt_ok S3 (by decide)
  · exact pt_ok S6 (by decide)
  · exact fr_ok S7 (by decide)
  · exact fr_ok S8 (by decide)
  · exact pt_ok (pt_qtr PA) (by decide)
structure Rg (K : PySem.W.Frag) (H : Hp) (va vb vc ve : V) (a b c e : List Int) : Prop where
  ta : Tp K H va a
  tb : Tp K H vb b
  tc : Tp K H vc c
  te : Tp K H ve e
theorem Rg.same {K : PySem.W.Frag} {H H' : Hp} {va vb vc ve : V} {a b c e : List Int} (h : Rg K H va vb vc ve a b c e) (s : Same H H') : Rg K H' va vb vc ve a b c e := ⟨h.ta.same s, h.tb.same s, h.tc.same s, h.te.same s⟩
section
variable {P : Program} {w : World} {K :
      PySem.W.Frag} {mg : Str → Option Value} {base : Heap}
abbrev n_law_right : List Str := ["_law_urn_here", "_law_a", "_law_b", "_law_c", "_law_part", "_law_gap", "_law_due", "_law_told", "_law_d", "_law_turn"]
abbrev p_law_right : List Str := ["_law_urn_here"]
theorem sc_law_right : FnScope n_law_right p_law_right (defScope sRight) := ⟨rfl, rfl, rfl, by decide +kernel, rfl, by decide +kernel, by decide +kernel⟩
def spRight : Sp := fun vs H Q _ => ∃ u : Addr, vs = [.ref u] ∧ H u = some (UrnO u) ∧ ∀ H' : Hp, Same H H' → Q (.bl true) H'
set_option
      maxHeartbeats 4000000 in
theorem ok_right {f : Addr} {fd : FuncData} (F : Fun K "_law_right" "_law_right" sRight f fd) (T : Bl mg) (H_law_any : Has P w K mg base "_law_any" p_law_any 2 spAny) (H_law_num : Has P w K mg base "_law_num" p_law_num 2 spNum) (H_law_pull : Has P w K mg base "_law_pull" ["_law_urn_here", "_law_many"] 1 spPull)
    (H_law_drawn : Has P w K mg base "_law_drawn" p_drawn 4 (spDrawn K)) (H_law_frac : Has P w K mg base "_law_frac" p_lfrac 3 (spN2 K)) (H_law_way : Has P w K mg base "_law_way" p_lway 4 (spP2 K wayL)) (H_law_on : Has P w K mg base "_law_on" p_lon 4 (spP2 K sumL)) (H_law_by : Has P w K mg base "_law_by" p_lby 4 (spPF K byL))
    (H_law_dot : Has P w K mg base "_law_dot" p_lsg 4 (spP2 K innL)) (H_law_cross : Has P w K mg base "_law_cross" p_lsg 4 (spP2 K crsL)) (H_law_quarter : Has P w K mg base "_law_quarter" p_lstep 1 (spP1 K qtrL)) (H_law_side : Has P w K mg base "_law_side" p_lside 5 (spLSide K))
    (H_plus : Has P w K mg base "plus" p_po 5 (spP2 K sumL)) (H_minus : Has P w K mg base "minus" p_po 5 (spP2 K fun a b => wayL b a)) (H_times : Has P w K mg base "times" p_pf 5 (spPF K byL)) (H_between : Has P w K mg base "between" p_pof 5 (spPPF K)) (H_inner : Has P w K mg base "inner" p_po 5 (spP2 K innL)) (H_cross : Has P w K mg base "cross" p_po 5 (spP2 K crsL)) (H_quarter : Has P w K mg base "quarter" p_p 5 (spP1 K qtrL)) (H_sense : Has P w K mg base "sense" p_pot 5 (spSide K))
    (HR_plus : HasR P w K mg base "plus" p_po 5 (spP2 K sumL)) (HR_minus : HasR P w K mg base "minus" p_po 5 (spP2 K fun a b => wayL b a)) (HR_times : HasR P w K mg base "times" p_pf 5 (spPF K byL)) (HN_between : HasN P w K mg base "between" p_pof 1 ["fraction", "other"] 5 (spPPF K)) (HR_inner : HasR P w K mg base "inner" p_po 5 (spP2 K innL)) (HR_cross : HasR P w K mg base "cross" p_po 5 (spP2 K crsL)) (HR_quarter : HasR P w K mg base "quarter" p_p 5 (spP1 K qtrL)) (HR_sense : HasR P w K mg base "sense" p_pot 5 (spSide K)) :
    FnG P w K mg base CX0 6 f fd p_law_right spRight := by
  refine okG F sc_law_right (fun vs H Q E h => ?_) (fun cdv A outer s H vs Q E hg hr h => ?_)
  · obtain ⟨u, rfl, _⟩ := h
    rfl
  · obtain ⟨u, rfl, hu0, q⟩ := h
    have hu : (A.deeper (PyProof.Rows.envOfC "_law_right" (defScope sRight) s.heap.objs.size f cdv)).units + 64 < cLine := hr.units
    refine ⟨_, (pss_cons (ps_par3 (i := 1) (j := 2) (l := 3) rfl sc_law_right.nd rfl rfl rfl (by decide) (by decide) (by decide) rfl rfl rfl (pa_cons (pe_has H_law_drawn (hr.mono (by decide)) (by rfl) (pa_cons (pv 0) pa_nil)) (pa_cons (pe_has H_law_drawn (hr.mono (by decide)) (by rfl) (pa_cons (pv 0) pa_nil)) (pa_cons (pe_has H_law_drawn (hr.mono (by decide)) (by rfl) (pa_cons (pv 0) pa_nil)) pa_nil))) (by rfl))
      (pss_cons (ps_set (i := 4) sc_law_right.nd rfl (Or.inl rfl) (pe_has H_law_frac (hr.mono (by decide)) (by rfl) (pa_cons (pe_has H_law_num (hr.mono (by decide)) (by rfl) (pa_cons (pv 0) (pa_cons (pe_has H_law_any (hr.mono (by decide)) (by rfl) (pa_cons (pv 0) (pa_cons (pe_lst (pa_cons pe_int (pa_cons pe_int (pa_cons pe_int pa_nil)))) pa_nil))) pa_nil))) (pa_cons (pe_op op_add pe_int (pe_has H_law_pull (hr.mono (by decide)) (by rfl) (pa_cons (pv 0) (pa_cons pe_int pa_nil)))) pa_nil))))
      (pss_cons (ps_set (i := 5) sc_law_right.nd rfl (Or.inl rfl) (pe_has H_law_way (hr.mono (by decide)) (by rfl) (pa_cons (pv 2) (pa_cons (pv 1) pa_nil))))
      (pss_cons (ps_set (i := 6) sc_law_right.nd rfl (Or.inl rfl) (pe_lst (pa_cons (pe_has H_law_on (hr.mono (by decide)) (by rfl) (pa_cons (pv 1) (pa_cons (pv 2) pa_nil))) (pa_cons (pv 5) (pa_cons (pe_has H_law_by (hr.mono (by decide)) (by rfl) (pa_cons (pv 1) (pa_cons (pv 4) pa_nil))) (pa_cons (pe_has H_law_on (hr.mono (by decide)) (by rfl) (pa_cons (pv 1) (pa_cons (pe_has H_law_by (hr.mono (by decide)) (by rfl) (pa_cons (pe_has H_law_way (hr.mono (by decide)) (by rfl) (pa_cons (pv 1) (pa_cons (pv 2) pa_nil))) (pa_cons (pv 4) pa_nil))) pa_nil))) (pa_cons (pe_has H_law_dot (hr.mono (by decide)) (by rfl) (pa_cons (pv 1) (pa_cons (pv 2) pa_nil))) (pa_cons (pe_has H_law_cross (hr.mono (by decide)) (by rfl) (pa_cons (pv 1) (pa_cons (pv 2) pa_nil))) (pa_cons (pe_has H_law_quarter (hr.mono (by decide)) (by rfl) (pa_cons (pv 1) pa_nil)) pa_nil)))))))))
      (pss_cons (ps_set (i := 7) sc_law_right.nd rfl (Or.inl rfl) (pe_lst (pa_cons (pe_has H_plus (hr.mono (by decide)) (by rfl) (pa_cons (pv 1) (pa_cons (pv 2) pa_nil))) (pa_cons (pe_has H_minus (hr.mono (by decide)) (by rfl) (pa_cons (pv 1) (pa_cons (pv 2) pa_nil))) (pa_cons (pe_has H_times (hr.mono (by decide)) (by rfl) (pa_cons (pv 1) (pa_cons (pv 4) pa_nil))) (pa_cons (pe_has H_between (hr.mono (by decide)) (by rfl) (pa_cons (pv 1) (pa_cons (pv 2) (pa_cons (pv 4) pa_nil)))) (pa_cons (pe_has H_inner (hr.mono (by decide)) (by rfl) (pa_cons (pv 1) (pa_cons (pv 2) pa_nil))) (pa_cons (pe_has H_cross (hr.mono (by decide)) (by rfl) (pa_cons (pv 1) (pa_cons (pv 2) pa_nil))) (pa_cons (pe_has H_quarter (hr.mono (by decide)) (by rfl) (pa_cons (pv 1) pa_nil)) pa_nil)))))))))
      (pss_cons (ps_if (pt_cmpR op_ne (pe_callB (call_repr hg hu) (by rfl) T.repr PyProof.Rows.boot_repr (pa_cons (pv 7) pa_nil)) (pe_callB (call_repr hg hu) (by rfl) T.repr PyProof.Rows.boot_repr (pa_cons (pv 6) pa_nil)) (nomark _)) (pss_one (ps_ret pe_bl)) pss_nil)
      (pss_cons (ps_set (i := 7) sc_law_right.nd rfl (Or.inl rfl) (pe_lst (pa_cons (pe_hasR0 HR_plus (hr.mono (by decide)) (by rfl) (pk_cons (pv 2) (pk_cons (pv 1) pk_nil))) (pa_cons (pe_hasR0 HR_minus (hr.mono (by decide)) (by rfl) (pk_cons (pv 2) (pk_cons (pv 1) pk_nil))) (pa_cons (pe_hasR0 HR_times (hr.mono (by decide)) (by rfl) (pk_cons (pv 4) (pk_cons (pv 1) pk_nil))) (pa_cons (pe_hasN HN_between (hr.mono (by decide)) (by rfl) (pa_cons (pv 1) pa_nil) (pk_cons (pv 4) (pk_cons (pv 2) pk_nil))) pa_nil))))))
      (pss_cons (ps_if (pt_cmpR op_ne (pe_callB (call_repr hg hu) (by rfl) T.repr PyProof.Rows.boot_repr (pa_cons (pe_op op_cat (pv 7) (pe_lst (pa_cons (pe_hasR0 HR_inner (hr.mono (by decide)) (by rfl) (pk_cons (pv 2) (pk_cons (pv 1) pk_nil))) (pa_cons (pe_hasR0 HR_cross (hr.mono (by decide)) (by rfl) (pk_cons (pv 2) (pk_cons (pv 1) pk_nil))) (pa_cons (pe_hasR0 HR_quarter (hr.mono (by decide)) (by rfl) (pk_cons (pv 1) pk_nil)) pa_nil))))) pa_nil)) (pe_callB (call_repr hg hu) (by rfl) T.repr PyProof.Rows.boot_repr (pa_cons (pv 6) pa_nil)) (nomark _)) (pss_one (ps_ret pe_bl)) pss_nil)
      (pss_cons (ps_if (pt_cmpR op_ne (pe_callB (call_repr hg hu) (by rfl) T.repr PyProof.Rows.boot_repr (pa_cons (pe_lst (pa_cons (pe_has H_plus (hr.mono (by decide)) (by rfl) (pa_cons (pe_has H_minus (hr.mono (by decide)) (by rfl) (pa_cons (pv 1) (pa_cons (pv 2) pa_nil))) (pa_cons (pv 2) pa_nil))) (pa_cons (pe_has H_quarter (hr.mono (by decide)) (by rfl) (pa_cons (pe_has H_quarter (hr.mono (by decide)) (by rfl) (pa_cons (pe_has H_quarter (hr.mono (by decide)) (by rfl) (pa_cons (pe_has H_quarter (hr.mono (by decide)) (by rfl) (pa_cons (pv 1) pa_nil)) pa_nil)) pa_nil)) pa_nil)) (pa_cons (pe_has H_cross (hr.mono (by decide)) (by rfl) (pa_cons (pe_has H_quarter (hr.mono (by decide)) (by rfl) (pa_cons (pv 1) pa_nil)) (pa_cons (pv 1) pa_nil))) pa_nil)))) pa_nil)) (pe_callB (call_repr hg hu) (by rfl) T.repr PyProof.Rows.boot_repr (pa_cons (pe_lst (pa_cons (pv 1) (pa_cons (pv 1) (pa_cons (pe_has H_law_dot (hr.mono (by decide)) (by rfl) (pa_cons (pe_tup (pa_cons (pe_un un_neg (pe_ix (r := rIxT K) ix_tup (pv 1) pe_int (fun _ _ => rfl))) (pa_cons (pe_un un_neg (pe_ix (r := rIxT K) ix_tup (pv 1) pe_int (fun _ _ => rfl))) (pa_cons (pe_ix (r := rIxT K) ix_tup (pv 1) pe_int (fun _ _ => rfl)) pa_nil)))) (pa_cons (pv 1) pa_nil))) pa_nil)))) pa_nil)) (nomark _)) (pss_one (ps_ret pe_bl)) pss_nil)
      (pss_cons (ps_set (i := 8) sc_law_right.nd rfl (Or.inl rfl) (pe_has H_law_any (hr.mono (by decide)) (by rfl) (pa_cons (pv 0) (pa_cons (pe_lst (pa_cons (pv 1) (pa_cons (pv 2) (pa_cons (pe_has H_law_on (hr.mono (by decide)) (by rfl) (pa_cons (pv 1) (pa_cons (pe_has H_law_by (hr.mono (by decide)) (by rfl) (pa_cons (pe_has H_law_way (hr.mono (by decide)) (by rfl) (pa_cons (pv 1) (pa_cons (pv 2) pa_nil))) (pa_cons (pv 4) pa_nil))) pa_nil))) (pa_cons (pv 3) pa_nil))))) pa_nil))))
      (pss_cons (ps_set (i := 9) sc_law_right.nd rfl (Or.inl rfl) (pe_has H_law_side (hr.mono (by decide)) (by rfl) (pa_cons (pv 1) (pa_cons (pv 2) (pa_cons (pv 8) pa_nil)))))
      (pss_one (ps_ret (pe_cmpR op_eq (pe_callB (call_repr hg hu) (by rfl) T.repr PyProof.Rows.boot_repr (pa_cons (pe_lst (pa_cons (pe_has H_sense (hr.mono (by decide)) (by rfl) (pa_cons (pv 1) (pa_cons (pv 2) (pa_cons (pv 8) pa_nil)))) (pa_cons (pe_has H_sense (hr.mono (by decide)) (by rfl) (pa_cons (pv 2) (pa_cons (pv 1) (pa_cons (pv 8) pa_nil)))) (pa_cons (pe_hasR0 HR_sense (hr.mono (by decide)) (by rfl) (pk_cons (pv 8) (pk_cons (pv 2) (pk_cons (pv 1) pk_nil)))) (pa_cons (pe_has H_sense (hr.mono (by decide)) (by rfl) (pa_cons (pv 1) (pa_cons (pv 8) (pa_cons (pv 2) pa_nil)))) pa_nil))))) pa_nil)) (pe_callB (call_repr hg hu) (by rfl) T.repr PyProof.Rows.boot_repr (pa_cons (pe_lst (pa_cons (pv 9) (pa_cons (pe_un un_neg (pv 9)) (pa_cons (pv 9) (pa_cons (pe_un un_neg (pv 9)) pa_nil))))) pa_nil)) (nomark _))))))))))))))), ?_⟩
    -- the draws
    refine ⟨_, rfl, u, rfl, hu0, fun va a xa ya wa H1 s1 ta PA => ⟨_, rfl, u, rfl, s1 _ _ hu0, fun vb b xb yb wb H2 s2 tb PB => ⟨_, rfl, u, rfl, (s1.trans s2) _ _ hu0, fun vc c xc yc wc H3 s3 tc PC => ⟨_, _, _, rfl, ?_⟩⟩⟩⟩
    have s03 := (s1.trans s2).trans s3
    have ta3 := (ta.same s2).same s3
    have tb3 := tb.same s3
    clear ta tb
    refine ⟨_, rfl, _, rfl, by show 3 ≤ sizeLine; decide, fun l1 hl1 => ⟨u, l1, _, rfl, same_new hl1 _ _ (s03 _ _ hu0), upd_same, by decide, by decide, fun hx H4 hm s4 => ?_⟩⟩
    obtain ⟨h, rfl, h0, h1⟩ := menu (l := [1, 5, 40]) (lo := 1) (hi := 40) hm (by decide)
    have s34 := (same_new (p := l1) (o := HO.lst [V.int 1, .int 5, .int 40]) hl1).trans s4
    have s04 := s03.trans s34
    refine ⟨u, h, rfl, s04 _ _ hu0, by omega, by omega, fun r H5 r0 r1 s5 => ?_⟩
    have s05 := s04.trans s5
    refine ⟨_, rfl, u, 9, rfl, s05 _ _ hu0, by decide, by decide, fun k H6 k0 k1 s6 => ⟨_, _, rfl, rfl, r, 1 + k, rfl, by omega, ?_, ?_, fun ve H7 s7 te => ?_⟩⟩
    · exact Nat.le_trans (by omega : r.natAbs ≤ 100) (by decide)
    · exact Nat.le_trans (by omega : (1 + k).natAbs ≤ 100) (by decide)
    obtain ⟨_, et, ed, _, _, _, PE⟩ := fr_thin (x := r) (w := 1 + k) (n := 100) (by omega) (by omega) (by omega)
    generalize thin [r, 1 + k] = e at te PE
    have s37 := s34.trans (s5.trans (s6.trans s7))
    have s07 := s03.trans s37
    have R : Rg K H7 va vb vc ve a b c e := ⟨ta3.same s37, tb3.same s37, tc.same s37, te⟩
    clear ta3 tb3 tc te hl1 hm s34 s04 s05 s37 s1 s2 s3 s4 s5 s6 s7 s03 h0 h1 r0 r1 k0 k1
    obtain ⟨_, _, _, _, _, _, _, _, WBA⟩ := pt_way PB PA
    obtain ⟨_, _, _, _, _, _, _, _, WAB⟩ := pt_way PA PB
    obtain ⟨_, _, _, _, _, _, _, _, BY⟩ := pt_by WAB PE
    obtain ⟨_, _, _, _, _, _, _, _, BET⟩ := pt_sum PA BY
    have DOK := due_ok PA PB PE
    obtain ⟨o1, o2, o3, o4⟩ := rep_facts DOK (by decide)
    -- the gap
    refine ⟨_, rfl, _, rfl, go2 (E := E0) R.tb R.ta PB PA (by decide) (by decide) fun vg H8 s8 tg => ?_⟩
    have R8 := R.same s8
    have s08 := s07.trans s8
    clear s07 s8 R
    -- the due list
    refine ⟨_, rfl, _, rfl, go2 (E := E0) R8.ta R8.tb PA PB (by decide) (by decide) fun p1 H9 s1 t1 => ⟨_, rfl, _, rfl, _, rfl, goF (E := E0) (R8.ta.same s1) (R8.te.same s1) PA PE (by decide) (by decide) fun p3 H10 s2 t3 => ?_⟩⟩
    have s12 := s1.trans s2
    have R10 := R8.same s12
    refine ⟨_, rfl, _, rfl, _, rfl, go2 (E := E0) R10.ta R10.tb PA PB (by decide) (by decide) fun p5 H11 s3 t5 => ⟨_, rfl, goF (E := E0) t5 (R10.te.same s3) WAB PE (by decide) (by decide) fun p6 H12 s4 t6 => go2 (E := E0) (R10.ta.same (s3.trans s4)) t6 PA BY (by decide) (by decide) fun p7 H13 s5 t7 => ?_⟩⟩
    have s35 := s3.trans (s4.trans s5)
    have R13 := R10.same s35
    refine ⟨_, rfl, _, rfl, go2 (E := E0) R13.ta R13.tb PA PB (by decide) (by decide) fun p8 H14 s6 t8 => ⟨_, rfl, _, rfl, go2 (E := E0) (R13.ta.same s6) (R13.tb.same s6) PA PB (by decide) (by decide) fun p9 H15 s7 t9 => ?_⟩⟩
    have s67 := s6.trans s7
    refine ⟨_, rfl, go1 (E := E0) (R13.ta.same s67) PA (by decide) fun p10 H16 s9 t10 => ⟨by show 7 ≤ sizeLine; decide, fun ld hld => ?_⟩⟩
    have s79 := s67.trans s9
    have s39 := s35.trans s79
    have s29 := s2.trans s39
    have DP : DpAll K H16 [p1, vg, p3, p7, p8, p9, p10] ((dueL a b e).map tupD) :=
      dpAll_tps (.cons (t1.same s29) (.cons (tg.same (s12.trans s39)) (.cons (t3.same s39) (.cons (t7.same s79) (.cons (t8.same (s7.trans s9)) (.cons (t9.same s9) (.cons t10 .nil)))))))
    have R16 := R13.same s79
    have s016 := s08.trans (s12.trans s39)
    have sA := same_new (p := ld) (o := HO.lst [p1, vg, p3, p7, p8, p9, p10]) hld
    have aD : (upd H16 ld (.lst [p1, vg, p3, p7, p8, p9, p10])) ld = _ := upd_same
    have DD : Dp K (upd H16 ld (.lst [p1, vg, p3, p7, p8, p9, p10])) (.ref ld) (.list ((dueL a b e).map tupD)) := dp_list aD (dpAll_same sA DP)
    have R17 := R16.same sA
    have s017 := s016.trans sA
    generalize upd H16 ld (.lst [p1, vg, p3, p7, p8, p9, p10]) = H17 at sA aD DD R17 s017 ⊢
    clear sA aD DP R16 s016 t10 t9 t8 t7 t3 t1 s29 s39 s79 s9 s67 s6 s7 R13 s35 s3 s4 s5 t5 t6 R10 s12 s1 s2 R8 s08 hld
    -- told, by position
    refine ⟨_, rfl, _, rfl, go2 (E := E0) R17.ta R17.tb PA PB (by decide) (by decide) fun p1 H1 s1 t1 => ⟨_, rfl, _, rfl, go2 (E := E0) (R17.ta.same s1) (R17.tb.same s1) PA PB (by decide) (by decide) fun p2 H2 s2 t2 => ?_⟩⟩
    have s12 := s1.trans s2
    refine ⟨_, rfl, _, rfl, goF (E := E0) (R17.ta.same s12) (R17.te.same s12) PA PE (by decide) (by decide) fun p3 H3 s3 t3 => ?_⟩
    have s13 := s12.trans s3
    refine ⟨_, rfl, _, rfl, _, rfl, goB (E := E0) (R17.ta.same s13) (R17.tb.same s13) (R17.te.same s13) PA PB PE fun p4 H4 s4 t4 => ?_⟩
    have s14 := s13.trans s4
    refine ⟨_, rfl, _, rfl, go2 (E := E0) (R17.ta.same s14) (R17.tb.same s14) PA PB (by decide) (by decide) fun p5 H5 s5 t5 => ?_⟩
    have s15 := s14.trans s5
    refine ⟨_, rfl, _, rfl, go2 (E := E0) (R17.ta.same s15) (R17.tb.same s15) PA PB (by decide) (by decide) fun p6 H6 s6 t6 => ?_⟩
    have s16 := s15.trans s6
    refine ⟨_, rfl, go1 (E := E0) (R17.ta.same s16) PA (by decide) fun p7 H7 s7 t7 => ⟨by show 7 ≤ sizeLine; decide, fun lt hlt => ?_⟩⟩
    have s17 := s16.trans s7
    have DP : DpAll K H7 [p1, p2, p3, p4, p5, p6, p7] ((dueL a b e).map tupD) :=
      dpAll_tps (.cons (t1.same (s2.trans (s3.trans (s4.trans (s5.trans (s6.trans s7)))))) (.cons (t2.same (s3.trans (s4.trans (s5.trans (s6.trans s7))))) (.cons (t3.same (s4.trans (s5.trans (s6.trans s7)))) (.cons (t4.same (s5.trans (s6.trans s7))) (.cons (t5.same (s6.trans s7)) (.cons (t6.same s7) (.cons t7 .nil)))))))
    have sA := same_new (p := lt) (o := HO.lst [p1, p2, p3, p4, p5, p6, p7]) hlt
    have aD : (upd H7 lt (.lst [p1, p2, p3, p4, p5, p6, p7])) lt = _ := upd_same
    have DT : Dp K (upd H7 lt (.lst [p1, p2, p3, p4, p5, p6, p7])) (.ref lt) (.list ((dueL a b e).map tupD)) := dp_list aD (dpAll_same sA DP)
    have sB := s17.trans sA
    have R18 := R17.same sB
    have DD18 := dp_same sB DD
    have s018 := s017.trans sB
    generalize upd H7 lt (.lst [p1, p2, p3, p4, p5, p6, p7]) = H18 at sA aD DT R18 s018 DD18 sB ⊢
    refine ⟨_, rfl, lt, _, rfl, DT, o1, o2, o3, o4, _, rfl, ld, _, rfl, DD18, o1, o2, o3, o4, rfl, _, rfl, iteNS rfl ?_⟩
    clear sA aD DP DT s017 R17 DD t7 t6 t5 t4 t3 t2 t1 s17 s7 s16 s6 s15 s5 s14 s4 s13 s3 s12 s2 s1 sB hlt
    -- told, by name
    refine ⟨_, rfl, _, rfl, go2 (E := E0) R18.ta R18.tb PA PB (by decide) (by decide) fun p1 H1 s1 t1 => ⟨_, rfl, _, rfl, go2 (E := E0) (R18.ta.same s1) (R18.tb.same s1) PA PB (by decide) (by decide) fun p2 H2 s2 t2 => ?_⟩⟩
    have s12 := s1.trans s2
    refine ⟨_, rfl, _, rfl, goF (E := E0) (R18.ta.same s12) (R18.te.same s12) PA PE (by decide) (by decide) fun p3 H3 s3 t3 => ?_⟩
    have s13 := s12.trans s3
    refine ⟨_, rfl, _, rfl, _, rfl, rfl, rfl, goB (E := E0) (R18.ta.same s13) (R18.tb.same s13) (R18.te.same s13) PA PB PE fun p4 H4 s4 t4 => ⟨by show 4 ≤ sizeLine; decide, fun l4 hl4 => ?_⟩⟩
    have s14 := s13.trans s4
    have sA := same_new (p := l4) (o := HO.lst [p1, p2, p3, p4]) hl4
    have aL : (upd H4 l4 (.lst [p1, p2, p3, p4])) l4 = _ := upd_same
    have R19 := R18.same (s14.trans sA)
    have T1 := t1.same (s2.trans (s3.trans (s4.trans sA)))
    have T2 := t2.same (s3.trans (s4.trans sA))
    have T3 := t3.same (s4.trans sA)
    have T4 := t4.same sA
    have s019 := s018.trans (s14.trans sA)
    have DD19 := dp_same (s14.trans sA) DD18
    generalize upd H4 l4 (.lst [p1, p2, p3, p4]) = H19 at sA aL R19 T1 T2 T3 T4 s019 DD19 ⊢
    clear sA s14 s4 s13 s3 s12 s2 s1 t1 t2 t3 t4 DD18 s018 R18 hl4
    refine ⟨_, rfl, _, rfl, _, rfl, go2 (E := E0) R19.ta R19.tb PA PB (by decide) (by decide) fun p5 H5 s5 t5 => ⟨_, rfl, _, rfl, go2 (E := E0) (R19.ta.same s5) (R19.tb.same s5) PA PB (by decide) (by decide) fun p6 H6 s6 t6 => ?_⟩⟩
    have s56 := s5.trans s6
    refine ⟨_, rfl, go1 (E := E0) (R19.ta.same s56) PA (by decide) fun p7 H7 s7 t7 => ⟨by show 3 ≤ sizeLine; decide, fun l3 hl3 => ?_⟩⟩
    have s57 := s56.trans s7
    have sA := same_new (p := l3) (o := HO.lst [p5, p6, p7]) hl3
    have sB := s57.trans sA
    refine ⟨l4, l3, [p1, p2, p3, p4], [p5, p6, p7], rfl, rfl, sB _ _ aL, upd_same, by show 7 ≤ sizeLine; decide, fun lt hlt => ?_⟩
    have sC := same_new (p := lt) (o := HO.lst ([p1, p2, p3, p4] ++ [p5, p6, p7])) hlt
    have sD := sB.trans sC
    have sE := sA.trans sC
    have DT := dp_list (K := K) (H := upd (upd H7 l3 (HO.lst [p5, p6, p7])) lt (HO.lst ([p1, p2, p3, p4] ++ [p5, p6, p7]))) upd_same (dpAll_tps (nss := dueL a b e) (.cons (T1.same sD) (.cons (T2.same sD) (.cons (T3.same sD) (.cons (T4.same sD) (.cons (t5.same (s6.trans (s7.trans sE))) (.cons (t6.same (s7.trans sE)) (.cons (t7.same sE) .nil))))))))
    have R20 := R19.same sD
    have DD20 := dp_same sD DD19
    have s020 := s019.trans sD
    generalize upd (upd H7 l3 (HO.lst [p5, p6, p7])) lt (HO.lst ([p1, p2, p3, p4] ++ [p5, p6, p7])) = H20 at sC sD sE DT R20 DD20 s020 ⊢
    refine ⟨lt, _, rfl, DT, o1, o2, o3, o4, _, rfl, ld, _, rfl, DD20, o1, o2, o3, o4, rfl, _, rfl, iteNS rfl ?_⟩
    clear sA sB sC sD sE DT T1 T2 T3 T4 t5 t6 t7 R19 DD19 s019 DD20 s57 s56 s7 s6 s5 hlt aL
    -- there and back
    refine ⟨_, rfl, _, rfl, go2 (E := E0) R20.ta R20.tb PA PB (by decide) (by decide) fun p1 H1 s1 t1 => ⟨_, rfl, go2 (E := E0) t1 (R20.tb.same s1) WBA PB (by decide) (by decide) fun p2 H2 s2 t2 => ?_⟩⟩
    have s12 := s1.trans s2
    refine ⟨_, rfl, go1 (E := E0) (R20.ta.same s12) PA (by decide) fun p3 H3 s3 t3 => go1 (E := E0) t3 (pt_qtr PA) (by decide) fun p4 H4 s4 t4 => go1 (E := E0) t4 (pt_qtr (pt_qtr PA)) (by decide) fun p5 H5 s5 t5 => go1 (E := E0) t5 (pt_qtr (pt_qtr (pt_qtr PA))) (by decide) fun p6 H6 s6 t6 => ?_⟩
    have s16 := s12.trans (s3.trans (s4.trans (s5.trans s6)))
    refine ⟨_, rfl, go1 (E := E0) (R20.ta.same s16) PA (by decide) fun p7 H7 s7 t7 => ⟨_, rfl, go2 (E := E0) t7 (R20.ta.same (s16.trans s7)) (pt_qtr PA) PA (by decide) (by decide) fun p8 H8 s8 t8 => ⟨by show 3 ≤ sizeLine; decide, fun lt hlt => ?_⟩⟩⟩
    have sA := same_new (p := lt) (o := HO.lst [p2, p6, p8]) hlt
    have e1 : sumL (wayL b a) b = a := way_back PA PB
    have T1 : Tp K (upd H8 lt (.lst [p2, p6, p8])) p2 a := e1 ▸ t2.same ((s3.trans (s4.trans (s5.trans s6))).trans (s7.trans (s8.trans sA)))
    have T2 : Tp K (upd H8 lt (.lst [p2, p6, p8])) p6 a := (qtr4 PA) ▸ t6.same (s7.trans (s8.trans sA))
    have T3 : Tp K (upd H8 lt (.lst [p2, p6, p8])) p8 (innL [-xa, -ya, wa] a) := (crs_qtr PA) ▸ t8.same sA
    have DT := dp_list (K := K) (H := upd H8 lt (HO.lst [p2, p6, p8])) upd_same (dpAll_tps (nss := [a, a, innL [-xa, -ya, wa] a]) (.cons T1 (.cons T2 (.cons T3 .nil))))
    have sB := s16.trans (s7.trans (s8.trans sA))
    have R21 := R20.same sB
    have s021 := s020.trans sB
    generalize upd H8 lt (HO.lst [p2, p6, p8]) = H21 at sA T1 T2 T3 DT sB R21 s021 ⊢
    clear T1 T2 T3 t8 t7 t6 t5 t4 t3 t2 t1 sA sB s16 s8 s7 s6 s5 s4 s3 s12 s2 s1 R20 s020 hlt
    obtain ⟨_, _, _, _, _, _, INN⟩ := fr_inn (pt_neg PA) PA
    have DOK3 : IntsOk ([a, a, innL [-xa, -ya, wa] a].map tupD) (411 * 3) := by
      refine tups_ok (nss := [a, a, innL [-xa, -ya, wa] a]) fun ns h => ?_
      simp only [List.mem_cons, List.not_mem_nil, or_false] at h
      rcases h with rfl | rfl | rfl
      · exact pt_ok PA (by decide)
      · exact pt_ok PA (by decide)
      · exact fr_ok INN (by decide)
    obtain ⟨i1, i2, i3, i4⟩ := rep_facts DOK3 (by decide)
    refine ⟨lt, _, rfl, DT, i1, i2, i3, i4, ?_⟩
    obtain ⟨ra, ea, sa⟩ := R21.ta
    have eq := PA.eq
    rw [eq] at sa
    refine ⟨_, rfl, _, rfl, _, ea ▸ rfl, ra, _, 0, _, rfl, rfl, sa, rfl, _, rfl, _, ea ▸ rfl, ra, _, 1, _, rfl, rfl, sa, rfl, _, rfl, _, ea ▸ rfl, ra, _, 2, _, rfl, rfl, sa, rfl, by show 3 ≤ sizeLine; decide, fun p hp => ?_⟩
    have s1 := same_new (p := p) (o := HO.tup [V.int (-xa), .int (-ya), .int wa]) hp
    have tp : Tp K (upd H21 p (.tup [V.int (-xa), .int (-ya), .int wa])) (.ref p) [-xa, -ya, wa] := ⟨p, rfl, SqT.of upd_same⟩
    refine ⟨_, rfl, go2 (E := E0) tp (R21.ta.same s1) (pt_neg PA) PA (by decide) (by decide) fun p9 H9 s9 t9 => ⟨by show 3 ≤ sizeLine; decide, fun l hl => ?_⟩⟩
    have sA := same_new (p := l) (o := HO.lst [va, va, p9]) hl
    have sB := s1.trans (s9.trans sA)
    have R22 := R21.same sB
    have DT2 := dp_list (K := K) (H := upd H9 l (HO.lst [va, va, p9])) upd_same (dpAll_tps (nss := [a, a, innL [-xa, -ya, wa] a]) (.cons R22.ta (.cons R22.ta (.cons (t9.same sA) .nil))))
    have s022 := s021.trans sB
    generalize upd H9 l (HO.lst [va, va, p9]) = H22 at sA sB R22 DT2 s022 ⊢
    refine ⟨l, _, rfl, DT2, i1, i2, i3, i4, rfl, _, rfl, iteNS rfl ?_⟩
    clear DT2 DT sA sB t9 s9 tp s1 R21 s021 hp hl sa ea i1 i2 i3 i4 DOK3 INN o1 o2 o3 o4 DOK
    -- the fourth point
    refine ⟨_, rfl, _, rfl, _, rfl, _, rfl, _, rfl, _, rfl, go2 (E := E0) R22.ta R22.tb PA PB (by decide) (by decide) fun p1 H1 s1 t1 => ⟨_, rfl, goF (E := E0) t1 (R22.te.same s1) WAB PE (by decide) (by decide) fun p2 H2 s2 t2 => go2 (E := E0) (R22.ta.same (s1.trans s2)) t2 PA BY (by decide) (by decide) fun p3 H3 s3 t3 => ⟨_, rfl, by show 4 ≤ sizeLine; decide, fun l hl => ?_⟩⟩⟩
    have s13 := s1.trans (s2.trans s3)
    have sA := same_new (p := l) (o := HO.lst [va, vb, p3, vc]) hl
    have sB := s13.trans sA
    refine ⟨u, l, _, rfl, (s022.trans sB) _ _ hu0, upd_same, by show 0 < 4; decide, by show 4 ≤ 1000; decide, fun vd H4 hm s4 => ?_⟩
    have s14 := sB.trans s4
    have s024 := s022.trans s14
    have R24 := R22.same s14
    obtain ⟨d, xd, yd, wd, ld', td, PD, hd⟩ : ∃ (d : List Int) (xd yd wd : Int) (n : Nat), Tp K H4 vd d ∧ PtL n d xd yd wd ∧ n ≤ 2 ^ 30 := by
      simp only [List.mem_cons,
            List.not_mem_nil, or_false] at hm
      rcases hm with rfl
            | rfl | rfl | rfl
      · exact ⟨a, _, _, _, _, R24.ta, PA, by decide⟩
      · exact ⟨b, _, _, _, _, R24.tb, PB, by decide⟩
      · exact ⟨_, _, _, _, _, t3.same (sA.trans s4), BET, by decide⟩
      · exact ⟨c, _, _, _, _, R24.tc, PC, by decide⟩
    clear s14 s4 hm sB sA s13 hl t3 t2 t1 s3 s2 s1 s022 R22
    obtain ⟨w1, w2⟩ := side_swap PA PB PD
    refine ⟨_, rfl, _, rfl, _, rfl, va, vb, vd, a, b, d, _, _, _, _, _, _, _, _, _, ld', rfl, R24.ta, R24.tb, td, PA, PB, PD, hd, fun H5 s5 => ?_⟩
    have R25 := R24.same s5
    have td5 := td.same s5
    refine ⟨_, rfl, _, rfl, _, rfl, va, vb, vd, a, b, d, _, _, _, _, _, _, _, _, _, 100, 100, ld', rfl, R25.ta, R25.tb, td5, PA, PB, PD, by decide, by decide, hd, fun H6 s6 => ⟨_, rfl, _, rfl, _, rfl, vb, va, vd, b, a, d, _, _, _, _, _, _, _, _, _, 100, 100, ld', rfl, R25.tb.same s6, R25.ta.same s6, td5.same s6, PB, PA, PD, by decide, by decide, hd, fun H7 s7 => ?_⟩⟩
    have s67 := s6.trans s7
    refine ⟨_, rfl, _, rfl, _, rfl, va, vb, vd, a, b, d, _, _, _, _, _, _, _, _, _, 100, 100, ld', rfl, R25.ta.same s67, R25.tb.same s67, td5.same s67, PA, PB, PD, by decide, by decide, hd, fun H8 s8 => ⟨_, rfl, _, rfl, _, rfl, va, vd, vb, a, d, b, _, _, _, _, _, _, _, _, _, 100, ld', 100, rfl, R25.ta.same (s67.trans s8), td5.same (s67.trans s8), R25.tb.same (s67.trans s8), PA, PD, PB, by decide, hd, by decide, fun H9 s9 => ⟨by show 4 ≤ sizeLine; decide, fun l hl => ?_⟩⟩⟩
    rw [w1, w2]
    have s59 := s5.trans (s67.trans (s8.trans s9))
    have s029 := s024.trans s59
    clear s59 s9 s8 s67 s7 s6 s5 td5 R25 R24 td w1 w2
    have tn : ∃ n : Int, n = sidL a b d ∧ n.natAbs < 10 ^ 12 := ⟨_, rfl, sid_le⟩
    obtain ⟨n, en, nb⟩ := tn
    rw [← en]
    have IO : IntsOk ([n, -n, n, -n].map PyData.int) (41 * 4) := by
      refine ints_ok (ns := [n, -n, n, -n]) fun z h => ?_
      simp only [List.mem_cons, List.not_mem_nil, or_false] at h
      rcases h with rfl | rfl | rfl | rfl <;> omega
    obtain ⟨i1, i2, i3, i4⟩ := rep_facts IO (by decide)
    have AD : ∀ H', DpAll K H' [V.int n, .int (-n), .int n, .int (-n)] ([n, -n, n, -n].map PyData.int) := fun H' => .cons (.int _) (.cons (.int _) (.cons (.int _) (.cons (.int _) .nil)))
    refine ⟨l, _, rfl, dp_list upd_same (AD _), i1, i2, i3, i4, ?_⟩
    refine ⟨_, rfl, _, rfl, _, rfl, _, rfl, _, rfl, _, rfl, by show 4 ≤ sizeLine; decide, fun l2 hl2 => ⟨l2, _, rfl, dp_list upd_same (AD _), i1, i2, i3, i4, ?_⟩⟩
    refine ⟨rfl, ?_⟩
    rw [decide_eq_true rfl]
    exact q _ ((s029.trans (same_new hl)).trans (same_new hl2))
abbrev n_law : List Str := ["_law_script", "_law_lap"]
abbrev p_law : List Str := ["_law_script"]
theorem sc_law : FnScope n_law p_law (defScope sLaw) := ⟨rfl, rfl, rfl, by decide +kernel, rfl, by decide +kernel, by decide +kernel⟩
def spLaw (K : PySem.W.Frag) : Sp := fun vs H Q _ => ∃ (a : Addr) (ns : List Int), vs = [.ref a] ∧ SqL K H a (ns.map V.int) ∧ ∀ H' : Hp, Q (.bl true) H'
theorem ok_law {f : Addr} {fd : FuncData} (F : Fun K "law" "law" sLaw f fd) (T : Bl mg) (H_law_laps : Has P w K mg base "_law_laps" p_law_laps 1 (spLaps K)) (H_law_urn : Has P w K mg base "_law_urn" p_law_urn 1 (spUrn K))
    (HG_law_right : HasG P w K mg base "_law_right" p_law_right 6 spRight) : FnG P w K mg base CX0 7 f fd p_law (spLaw K) := by
  refine okG F sc_law (fun vs H Q E h => ?_) (fun cdv A outer s H vs Q E hg hr h => ?_)
  · obtain ⟨a, ns, rfl, _⟩ := h
    rfl
  · obtain ⟨a, ns, rfl, hS, q⟩ := h
    refine ⟨_, (pss_cons (ps_for PassesOwn.never rfl (pi_range1 (by rfl) T.range (pa_cons (pe_has H_law_laps (hr.mono (by decide)) (by rfl) (pa_cons (pv 0) pa_nil)) pa_nil)) (pg_name (i := 1) sc_law.nd rfl (Or.inl rfl)) (pss_one (ps_if (pt_not (pt_val (pe_hasG HG_law_right hg (hr.mono (by decide)) (by rfl) (pa_cons (pe_shut (pe_has H_law_urn (hr.mono (by decide)) (by rfl) (pa_cons (pv 0) (pa_cons (pv 1) pa_nil)))) pa_nil)))) (pss_one (ps_ret pe_bl)) pss_nil)))
      (pss_one (ps_ret
            pe_bl))), ?_⟩
    refine ⟨_, rfl, a, _, rfl, hS, fun n n0 n1 => ⟨n, rfl, by omega, by omega, for_range (lo := 0) (n := n.toNat) (fun i σ H' => ∃ v : Option V, σ = [some (.ref a), v] ∧ Same H H') ⟨none, rfl, Same.refl _⟩ ?_ ?_⟩⟩
    · rintro i σ H0 hi ⟨v, rfl, s0⟩
      refine ⟨_, rfl, _, rfl, a, ns, _, rfl, s0.seq hS, by omega, by omega, fun p x y z H2 hp s2 B hy => ⟨p, rfl, x, y, z, B, hy, p, rfl, upd_same, fun H3 s3 => ⟨true, rfl, ?_⟩⟩⟩
      exact ⟨_, rfl, s0.trans ((same_own s2 hp).trans s3)⟩
    · rintro σ H' ⟨v, rfl, s0⟩
      exact q H'
end
end K3

namespace Ur
open PySem L2
def FndR (K : PySem.W.Frag) (mg : Str → Option Value) (x : Str) (st : Stmt) (ps : List Str) : Prop :=
  ∃ f fd, Fun K x x st f fd ∧ mg x = some (.ref f) ∧ Binds K fd ps [] ∧ ∀ (s : Shared) (ws : List Value), ws.length = ps.length → BindsTo s fd ⟨[], ps.reverse.zip ws⟩ (ps.zip ws.reverse)
def FndN (K : PySem.W.Frag) (mg : Str → Option Value) (x : Str) (st : Stmt) (ps : List Str) : Prop :=
  ∃ f fd, Fun K x x st f fd ∧ mg x = some (.ref f) ∧ Binds K fd ps [] ∧ KBn K fd ps 1 ["fraction", "other"] (fun us ws => us ++ ws.reverse) (fun vs zs => vs ++ zs.reverse)
section
variable {P : Program} {w : World} {K : PySem.W.Frag} {mg : Str → Option Value} {base : Heap} {x : Str} {st : Stmt} {ps : List Str} {k : Nat} {sp : Sp}
theorem FndR.fnd (D : FndR K mg x st ps) : Fnd K mg x st ps := by
  obtain ⟨f, fd, F, m, b, _⟩ := D
  exact ⟨f, fd, F, m, b⟩
theorem FndN.fnd (D : FndN K mg x st ps) : Fnd K mg x st ps := by
  obtain ⟨f, fd, F, m, b, _⟩ := D
  exact ⟨f, fd, F, m, b⟩
theorem FndR.hasR (D : FndR K mg x st ps) (h : ∀ {f fd}, Fun K x x st f fd → FnOk P w K mg base CX0 k f fd ps sp) : HasR P w K mg base x ps k sp := by
  obtain ⟨f, fd, F, m, _, b⟩ := D
  exact ⟨f, fd, h F, m, F.kp, fun s ws _ hl => b s ws hl⟩
theorem FndN.hasN (D : FndN K mg x st ps) (h : ∀ {f fd}, Fun K x x st f fd → FnOk P w K mg base CX0 k f fd ps sp) : HasN P w K mg base x ps 1 ["fraction", "other"] k sp := by
  obtain ⟨f, fd, F, m, _, b⟩ := D
  exact ⟨f, fd, h F, m, F.kp, b⟩
end
section
variable {K : PySem.W.Frag} {h : Heap} {mg : Str → Option Value} {x : Str} {st : Stmt} {ps : List Str} {f : Addr} {oc kV dc pm cd ct : Value} {od an : Option Addr} {sl : Array (Option Value)}
theorem fndR_mk (X : K.In h) (G : h.Ns mainGlobals mg) (a : PySem.W.nsIn K mainGlobals x = some (some (.ref f))) (l : K.lookup f = some ⟨oc, od, .func (PySem.W.fnOf x x (defArgs st) (defBody st) (defScope st) .none kV dc pm an cd ct), sl⟩)
    (c : PySem.W.codeIn K cd x = true) (k : PySem.W.keepIn K (.ref f) = true)
    (hb : ∀ (kV doc pm : Value) (an : Option Addr) (cdv ct : Value) (us : List Value), us.length = ps.length → bindArgs (PySem.W.fnOf x x (defArgs st) (defBody st) (defScope st) .none kV doc pm an cdv ct) ⟨us, []⟩ = pure (ps.zip us))
    (hk : ∀ (kV doc pm : Value) (an : Option Addr) (cdv ct : Value) (ws : List Value), ws.length = ps.length → bindArgs (PySem.W.fnOf x x (defArgs st) (defBody st) (defScope st) .none kV doc pm an cdv ct) ⟨[], ps.reverse.zip ws⟩ = pure (ps.zip ws.reverse)) : FndR K mg x st ps := by
  have F := fun_mk l c k
  exact ⟨f, _, F, PySem.W.mg_of X G a, F.binds hb, fun s ws hl => .of_eq (hk _ _ _ _ _ _ ws hl)⟩
theorem fndN_mk (X : K.In h) (G : h.Ns mainGlobals mg) (a : PySem.W.nsIn K mainGlobals x = some (some (.ref f))) (l : K.lookup f = some ⟨oc, od, .func (PySem.W.fnOf x x (defArgs st) (defBody st) (defScope st) .none kV dc pm an cd ct), sl⟩)
    (c : PySem.W.codeIn K cd x = true) (k : PySem.W.keepIn K (.ref f) = true)
    (hb : ∀ (kV doc pm : Value) (an : Option Addr) (cdv ct : Value) (us : List Value), us.length = ps.length → bindArgs (PySem.W.fnOf x x (defArgs st) (defBody st) (defScope st) .none kV doc pm an cdv ct) ⟨us, []⟩ = pure (ps.zip us))
    (hk : ∀ (kV doc pm : Value) (an : Option Addr) (cdv ct : Value) (us ws : List Value), us.length = 1 → ws.length = 2 → bindArgs (PySem.W.fnOf x x (defArgs st) (defBody st) (defScope st) .none kV doc pm an cdv ct) ⟨us, List.zip ["fraction", "other"] ws⟩ = pure (ps.zip (us ++ ws.reverse))) : FndN K mg x st ps := by
  have F := fun_mk l c k
  exact ⟨f, _, F, PySem.W.mg_of X G a, F.binds hb, ⟨fun s us ws _ h1 h2 => .of_eq (hk _ _ _ _ _ _ us ws h1 h2), fun r rz => r.append (vals_rev rz)⟩⟩
end
end Ur
namespace K3
open PySem L2 Ur
section
variable {P : Program} {w : World} {K :
      PySem.W.Frag} {mg : Str → Option Value} {base : Heap}
theorem all_ok {f : Addr} {fd : FuncData} (F : Fun K "law" "law" sLaw f fd) (T : Bl mg) (mG : mg "gcd" = some (.builtin "math.gcd"))
    (D0 : Ur.Fnd K mg "common_divisor" sCom K3.p_common_divisor) (D1 : Ur.Fnd K mg "is_whole" sWhole K3.n_is_whole) (D2 : Ur.Fnd K mg "wholes_fit" sWholes K3.p_wholes_fit) (D3 : Ur.Fnd K mg "fraction_fits" sFracF K3.n_value) (D4 : Ur.Fnd K mg "point_fits" sPointF K3.n_value) (D5 : Ur.Fnd K mg "sign_of" sSign K3.p_n) (D6 : Ur.Fnd K mg "ratio" sRatio K3.p_ratio) (D7 : Ur.Fnd K mg "place" sPlace K3.p_place) (D8 : Ur.Fnd K mg "place_sum" sPSum K3.p_po) (D9 : Ur.Fnd K mg "way_to" sWayTo K3.p_po) (D10 : Ur.Fnd K mg "place_times" sPTimes K3.p_pf) (D11 : Ur.Fnd K mg "place_between" sPBetw K3.p_pof) (D12 : Ur.Fnd K mg "inner_of" sInnerOf K3.p_po) (D13 : Ur.Fnd K mg "cross_of" sCrossOf K3.p_po) (D14 : Ur.Fnd K mg "quarter_of" sQuarterOf K3.p_p) (D15 : Ur.Fnd K mg "line_through_both" sLine K3.p_po) (D16 : Ur.Fnd K mg "side_of" sSideOf K3.p_pot) (D17 : Ur.Fnd K mg "check_point" sChkP K3.n_value) (D18 : Ur.Fnd K mg "check_fraction" sChkF K3.n_value) (D19 : Ur.FndR K mg "plus" sPlus K3.p_po) (D20 : Ur.FndR K mg "minus" sMinus K3.p_po) (D21 : Ur.FndR K mg "times" sTimes K3.p_pf) (D22 : Ur.FndN K mg "between" sBetween K3.p_pof) (D23 : Ur.FndR K mg "inner" sInner K3.p_po) (D24 : Ur.FndR K mg "cross" sCross K3.p_po) (D25 : Ur.FndR K mg "quarter" sQuarter K3.p_p) (D26 : Ur.FndR K mg "sense" sSense K3.p_pot) (D27 : Ur.Fnd K mg "_law_urn" sUrn K3.p_law_urn) (D28 : Ur.Fnd K mg "_law_pull" sPull ["_law_urn_here", "_law_many"]) (D29 : Ur.Fnd K mg "_law_any" sAny K3.p_law_any) (D30 : Ur.Fnd K mg "_law_num" sNum K3.p_law_num) (D31 : Ur.Fnd K mg "_law_laps" sLaps K3.p_law_laps) (D32 : Ur.Fnd K mg "_law_gcd" sGcd K3.p_law_gcd) (D33 : Ur.Fnd K mg "_law_thin" sThin K3.p_law_thin) (D34 : Ur.Fnd K mg "_law_frac" sLFrac K3.p_lfrac) (D35 : Ur.Fnd K mg "_law_sign" sLSign K3.p_lnum) (D36 : Ur.Fnd K mg "_law_spot" sLSpot K3.p_lspot) (D37 : Ur.Fnd K mg "_law_way" sLWay K3.p_lway) (D38 : Ur.Fnd K mg "_law_on" sLOn K3.p_lon) (D39 : Ur.Fnd K mg "_law_by" sLBy K3.p_lby) (D40 : Ur.Fnd K mg "_law_cross" sLCross K3.p_lsg) (D41 : Ur.Fnd K mg "_law_dot" sLDot K3.p_lsg) (D42 : Ur.Fnd K mg "_law_quarter" sLQuarter K3.p_lstep) (D43 : Ur.Fnd K mg "_law_side" sLSide K3.p_lside) (D44 : Ur.Fnd K mg "_law_drawn" sDrawn K3.p_drawn) (D45 : Ur.Fnd K mg "_law_right" sRight K3.p_law_right) :
    FnG P w K mg base CX0 7 f fd p_law (spLaw K) := by
  have h_common_divisor : Has P w K mg base "common_divisor" K3.p_common_divisor 1 (spCom K) := D0.has fun F => ok_com F mG
  have h_is_whole : Has P w K mg base "is_whole" K3.n_is_whole 1 (spWhole K) := D1.has fun F => ok_whole F T
  have h_wholes_fit : Has P w K mg base "wholes_fit" K3.p_wholes_fit 2 (spTold K fun xs => xs.all wh) := D2.has fun F => ok_wholes F T h_is_whole
  have h_fraction_fits : Has P w K mg base "fraction_fits" K3.n_value 3 (spTold K isFr) := D3.has fun F => ok_fracF F T mG h_wholes_fit
  have h_point_fits : Has P w K mg base "point_fits" K3.n_value 3 (spTold K isPt) := D4.has fun F => ok_pointF F T h_common_divisor h_wholes_fit
  have h_sign_of : Has P w K mg base "sign_of" K3.p_n 1 spSgn := D5.has fun F => ok_sign F 
  have h_ratio : Has P w K mg base "ratio" K3.p_ratio 1 (spN2 K) := D6.has fun F => ok_ratio F mG
  have h_place : Has P w K mg base "place" K3.p_place 1 (spN3 K) := D7.has fun F => ok_place F mG
  have h_place_sum : Has P w K mg base "place_sum" K3.p_po 2 (spP2 K sumL) := D8.has fun F => ok_psum F h_place
  have h_way_to : Has P w K mg base "way_to" K3.p_po 2 (spP2 K wayL) := D9.has fun F => ok_wayto F h_place
  have h_place_times : Has P w K mg base "place_times" K3.p_pf 2 (spPF K byL) := D10.has fun F => ok_ptimes F h_place
  have h_place_between : Has P w K mg base "place_between" K3.p_pof 3 (spPPF K) := D11.has fun F => ok_pbetw F h_place_sum h_way_to h_place_times
  have h_inner_of : Has P w K mg base "inner_of" K3.p_po 2 (spP2 K innL) := D12.has fun F => ok_innerof F h_ratio
  have h_cross_of : Has P w K mg base "cross_of" K3.p_po 2 (spP2 K crsL) := D13.has fun F => ok_crossof F h_ratio
  have h_quarter_of : Has P w K mg base "quarter_of" K3.p_p 1 (spP1 K qtrL) := D14.has fun F => ok_quarterof F 
  have h_line_through_both : Has P w K mg base "line_through_both" K3.p_po 1 (spLine K) := D15.has fun F => ok_line F 
  have h_side_of : Has P w K mg base "side_of" K3.p_pot 2 (spSide K) := D16.has fun F => ok_sideof F h_line_through_both h_sign_of
  have h_check_point : Has P w K mg base "check_point" K3.n_value 4 (spChkP K) := D17.has fun F => ok_chkP F h_point_fits
  have h_check_fraction : Has P w K mg base "check_fraction" K3.n_value 4 (spChkF K) := D18.has fun F => ok_chkF F h_fraction_fits
  have h_plus : Has P w K mg base "plus" K3.p_po 5 (spP2 K sumL) := D19.fnd.has fun F => ok_m_plus F h_check_point h_place_sum
  have r_plus : HasR P w K mg base "plus" K3.p_po 5 (spP2 K sumL) := D19.hasR fun F => ok_m_plus F h_check_point h_place_sum
  have h_minus : Has P w K mg base "minus" K3.p_po 5 (spP2 K fun a b => wayL b a) := D20.fnd.has fun F => ok_m_minus F h_check_point h_way_to
  have r_minus : HasR P w K mg base "minus" K3.p_po 5 (spP2 K fun a b => wayL b a) := D20.hasR fun F => ok_m_minus F h_check_point h_way_to
  have h_times : Has P w K mg base "times" K3.p_pf 5 (spPF K byL) := D21.fnd.has fun F => ok_m_times F h_check_point h_check_fraction h_place_times
  have r_times : HasR P w K mg base "times" K3.p_pf 5 (spPF K byL) := D21.hasR fun F => ok_m_times F h_check_point h_check_fraction h_place_times
  have h_between : Has P w K mg base "between" K3.p_pof 5 (spPPF K) := D22.fnd.has fun F => ok_m_between F h_check_point h_check_fraction h_place_between
  have n_between : HasN P w K mg base "between" K3.p_pof 1 ["fraction", "other"] 5 (spPPF K) := D22.hasN fun F => ok_m_between F h_check_point h_check_fraction h_place_between
  have h_inner : Has P w K mg base "inner" K3.p_po 5 (spP2 K innL) := D23.fnd.has fun F => ok_m_inner F h_check_point h_inner_of
  have r_inner : HasR P w K mg base "inner" K3.p_po 5 (spP2 K innL) := D23.hasR fun F => ok_m_inner F h_check_point h_inner_of
  have h_cross : Has P w K mg base "cross" K3.p_po 5 (spP2 K crsL) := D24.fnd.has fun F => ok_m_cross F h_check_point h_cross_of
  have r_cross : HasR P w K mg base "cross" K3.p_po 5 (spP2 K crsL) := D24.hasR fun F => ok_m_cross F h_check_point h_cross_of
  have h_quarter : Has P w K mg base "quarter" K3.p_p 5 (spP1 K qtrL) := D25.fnd.has fun F => ok_m_quarter F h_check_point h_quarter_of
  have r_quarter : HasR P w K mg base "quarter" K3.p_p 5 (spP1 K qtrL) := D25.hasR fun F => ok_m_quarter F h_check_point h_quarter_of
  have h_sense : Has P w K mg base "sense" K3.p_pot 5 (spSide K) := D26.fnd.has fun F => ok_m_sense F h_check_point h_side_of
  have r_sense : HasR P w K mg base "sense" K3.p_pot 5 (spSide K) := D26.hasR fun F => ok_m_sense F h_check_point h_side_of
  have h__law_urn : Has P w K mg base "_law_urn" K3.p_law_urn 1 (spUrn K) := D27.has fun F => ok_urn F T
  have h__law_pull : Has P w K mg base "_law_pull" ["_law_urn_here", "_law_many"] 1 spPull := D28.has fun F => ok_pull F T
  have h__law_any : Has P w K mg base "_law_any" K3.p_law_any 2 spAny := D29.has fun F => ok_any F T h__law_pull
  have h__law_num : Has P w K mg base "_law_num" K3.p_law_num 2 spNum := D30.has fun F => ok_num F h__law_pull
  have h__law_laps : Has P w K mg base "_law_laps" K3.p_law_laps 1 (spLaps K) := D31.has fun F => ok_laps F T
  have h__law_gcd : Has P w K mg base "_law_gcd" K3.p_law_gcd 1 spGcd := D32.has fun F => ok_gcd F T
  have h__law_thin : Has P w K mg base "_law_thin" K3.p_law_thin 2 (spThin K) := D33.has fun F => ok_thin F T h__law_gcd
  have h__law_frac : Has P w K mg base "_law_frac" K3.p_lfrac 3 (spN2 K) := D34.has fun F => ok_lfrac F h__law_thin
  have h__law_sign : Has P w K mg base "_law_sign" K3.p_lnum 1 spSgn := D35.has fun F => ok_lsign F T
  have h__law_spot : Has P w K mg base "_law_spot" K3.p_lspot 3 (spN3 K) := D36.has fun F => ok_lspot F h__law_thin
  have h__law_way : Has P w K mg base "_law_way" K3.p_lway 4 (spP2 K wayL) := D37.has fun F => ok_sLWay F h__law_spot
  have h__law_on : Has P w K mg base "_law_on" K3.p_lon 4 (spP2 K sumL) := D38.has fun F => ok_sLOn F h__law_spot
  have h__law_by : Has P w K mg base "_law_by" K3.p_lby 4 (spPF K byL) := D39.has fun F => ok_lby F h__law_spot
  have h__law_cross : Has P w K mg base "_law_cross" K3.p_lsg 4 (spP2 K crsL) := D40.has fun F => ok_sLCross F h__law_frac
  have h__law_dot : Has P w K mg base "_law_dot" K3.p_lsg 4 (spP2 K innL) := D41.has fun F => ok_sLDot F h__law_frac
  have h__law_quarter : Has P w K mg base "_law_quarter" K3.p_lstep 1 (spP1 K qtrL) := D42.has fun F => ok_lquarter F 
  have h__law_side : Has P w K mg base "_law_side" K3.p_lside 5 (spLSide K) := D43.has fun F => ok_lside F h__law_way h__law_cross h__law_sign
  have h__law_drawn : Has P w K mg base "_law_drawn" K3.p_drawn 4 (spDrawn K) := D44.has fun F => ok_drawn F h__law_any h__law_num h__law_pull h__law_spot
  have h__law_right : HasG P w K mg base "_law_right" K3.p_law_right 6 spRight := D45.hasG fun F => ok_right F T h__law_any h__law_num h__law_pull h__law_drawn h__law_frac h__law_way h__law_on h__law_by h__law_dot h__law_cross h__law_quarter h__law_side h_plus h_minus h_times h_between h_inner h_cross h_quarter h_sense r_plus r_minus r_times n_between r_inner r_cross r_quarter r_sense
  exact ok_law F T h__law_laps h__law_urn h__law_right
end
theorem walk3 {l : PySem.W.OpenLaw} {q : Program} {loose : List Str} {XP : (Str → Option Value) → Heap → Prop} {YP : World → Heap → Prop} {d : DefRec} {K : Params → PySem.W.Frag} (hn : l.most = some 63) (hdf : d.params.defaults = [])
    (hY : ∀ (w : World) (h : Heap),
          YP w h → (K w.params).In h)
    (F : ∀ (w : World) (mg : Str → Option Value) (fa : Addr) (h : Heap),
          (K w.params).In h → h.Ns mainGlobals mg → mg d.name = some (.ref fa) →
      ∃ fd : FuncData, (∀ (s : Shared) (u : Value), BindsTo s fd ⟨[u], []⟩ [("_law_script", u)]) ∧ ∀ base : Heap, (K w.params).In base → base.Ns mainGlobals mg → FnG l.prog w (K w.params) mg base CX0 7 fa fd p_law (spLaw (K w.params))) :
    PySem.W.WalkO q loose XP YP l.row.toRowW
          d [] (fun f vs => PySem.call f vs) :=
  walkG (n := 63) (k := 7) (x := "_law_script") (sp := fun K => spLaw K) hn (by decide) hdf ⟨rfl, by decide, by decide⟩ hY F fun _ _ a ns _ hS => ⟨a, ns, rfl, hS, fun _ => rfl⟩
theorem law_mk {l : PySem.W.OpenLaw} {w : World} {K : PySem.W.Frag} {h : Heap} {mg : Str → Option Value} {fa f1 : Addr} (X : K.In h) (G : h.Ns mainGlobals mg) (hfa : mg "law" = some (.ref fa))
    {oc kV dc pm cd ct : Value} {od an : Option Addr} {sl : Array (Option Value)} (a : PySem.W.nsIn K mainGlobals "law" = some (some (.ref f1)))
    (lk : K.lookup f1 = some ⟨oc, od, .func (PySem.W.fnOf "law" "law" (defArgs sLaw) (defBody sLaw) (defScope sLaw) .none kV dc pm an cd ct), sl⟩) (c : PySem.W.codeIn K cd "law" = true) (k : PySem.W.keepIn K (.ref f1) = true)
    (ok : ∀ (base : Heap) (fd : FuncData), Fun K "law" "law" sLaw f1 fd → FnG l.prog w K mg base CX0 7 f1 fd p_law (spLaw K)) :
    ∃ fd : FuncData, (∀ (s : Shared) (u : Value), BindsTo s fd ⟨[u], []⟩ [("_law_script", u)]) ∧ ∀ base : Heap, K.In base → base.Ns mainGlobals mg → FnG l.prog w K mg base CX0 7 fa fd p_law (spLaw K) := by
  obtain rfl : fa = f1 := by
    have e := hfa.symm.trans (PySem.W.mg_of X G a)
    cases e
    rfl
  exact ⟨_, fun s u => .of_eq rfl, fun base _ _ => ok base _ (fun_mk lk c k)⟩
theorem law_all {l : PySem.W.OpenLaw} {w : World} {K : PySem.W.Frag} {h : Heap} {mg : Str → Option Value} {fa f1 : Addr} (X : K.In h) (G : h.Ns mainGlobals mg) (hfa : mg "law" = some (.ref fa)) (T : Bl mg) (mG : mg "gcd" = some (.builtin "math.gcd"))
    (D0 : Ur.Fnd K mg "common_divisor" sCom K3.p_common_divisor) (D1 : Ur.Fnd K mg "is_whole" sWhole K3.n_is_whole) (D2 : Ur.Fnd K mg "wholes_fit" sWholes K3.p_wholes_fit) (D3 : Ur.Fnd K mg "fraction_fits" sFracF K3.n_value) (D4 : Ur.Fnd K mg "point_fits" sPointF K3.n_value) (D5 : Ur.Fnd K mg "sign_of" sSign K3.p_n) (D6 : Ur.Fnd K mg "ratio" sRatio K3.p_ratio) (D7 : Ur.Fnd K mg "place" sPlace K3.p_place) (D8 : Ur.Fnd K mg "place_sum" sPSum K3.p_po) (D9 : Ur.Fnd K mg "way_to" sWayTo K3.p_po) (D10 : Ur.Fnd K mg "place_times" sPTimes K3.p_pf) (D11 : Ur.Fnd K mg "place_between" sPBetw K3.p_pof) (D12 : Ur.Fnd K mg "inner_of" sInnerOf K3.p_po) (D13 : Ur.Fnd K mg "cross_of" sCrossOf K3.p_po) (D14 : Ur.Fnd K mg "quarter_of" sQuarterOf K3.p_p) (D15 : Ur.Fnd K mg "line_through_both" sLine K3.p_po) (D16 : Ur.Fnd K mg "side_of" sSideOf K3.p_pot) (D17 : Ur.Fnd K mg "check_point" sChkP K3.n_value) (D18 : Ur.Fnd K mg "check_fraction" sChkF K3.n_value) (D19 : Ur.FndR K mg "plus" sPlus K3.p_po) (D20 : Ur.FndR K mg "minus" sMinus K3.p_po) (D21 : Ur.FndR K mg "times" sTimes K3.p_pf) (D22 : Ur.FndN K mg "between" sBetween K3.p_pof) (D23 : Ur.FndR K mg "inner" sInner K3.p_po) (D24 : Ur.FndR K mg "cross" sCross K3.p_po) (D25 : Ur.FndR K mg "quarter" sQuarter K3.p_p) (D26 : Ur.FndR K mg "sense" sSense K3.p_pot) (D27 : Ur.Fnd K mg "_law_urn" sUrn K3.p_law_urn) (D28 : Ur.Fnd K mg "_law_pull" sPull ["_law_urn_here", "_law_many"]) (D29 : Ur.Fnd K mg "_law_any" sAny K3.p_law_any) (D30 : Ur.Fnd K mg "_law_num" sNum K3.p_law_num) (D31 : Ur.Fnd K mg "_law_laps" sLaps K3.p_law_laps) (D32 : Ur.Fnd K mg "_law_gcd" sGcd K3.p_law_gcd) (D33 : Ur.Fnd K mg "_law_thin" sThin K3.p_law_thin) (D34 : Ur.Fnd K mg "_law_frac" sLFrac K3.p_lfrac) (D35 : Ur.Fnd K mg "_law_sign" sLSign K3.p_lnum) (D36 : Ur.Fnd K mg "_law_spot" sLSpot K3.p_lspot) (D37 : Ur.Fnd K mg "_law_way" sLWay K3.p_lway) (D38 : Ur.Fnd K mg "_law_on" sLOn K3.p_lon) (D39 : Ur.Fnd K mg "_law_by" sLBy K3.p_lby) (D40 : Ur.Fnd K mg "_law_cross" sLCross K3.p_lsg) (D41 : Ur.Fnd K mg "_law_dot" sLDot K3.p_lsg) (D42 : Ur.Fnd K mg "_law_quarter" sLQuarter K3.p_lstep) (D43 : Ur.Fnd K mg "_law_side" sLSide K3.p_lside) (D44 : Ur.Fnd K mg "_law_drawn" sDrawn K3.p_drawn) (D45 : Ur.Fnd K mg "_law_right" sRight K3.p_law_right)
    {oc kV dc pm cd ct : Value} {od an : Option Addr} {sl : Array (Option Value)} (a : PySem.W.nsIn K mainGlobals "law" = some (some (.ref f1)))
    (lk : K.lookup f1 = some ⟨oc, od, .func (PySem.W.fnOf "law" "law" (defArgs sLaw) (defBody sLaw) (defScope sLaw) .none kV dc pm an cd ct), sl⟩) (c : PySem.W.codeIn K cd "law" = true) (k : PySem.W.keepIn K (.ref f1) = true) :
    ∃ fd : FuncData, (∀ (s : Shared) (u : Value), BindsTo s fd ⟨[u], []⟩ [("_law_script", u)]) ∧ ∀ base : Heap, K.In base → base.Ns mainGlobals mg → FnG l.prog w K mg base CX0 7 fa fd p_law (spLaw K) :=
  law_mk X G hfa a lk c k fun base fd F => all_ok F T mG D0 D1 D2 D3 D4 D5 D6 D7 D8 D9 D10 D11 D12 D13 D14 D15 D16 D17 D18 D19 D20 D21 D22 D23 D24 D25 D26 D27 D28 D29 D30 D31 D32 D33 D34 D35 D36 D37 D38 D39 D40 D41 D42 D43 D44 D45
end K3

open PySem PySem.W
      PyProof.Rows
set_option
      maxRecDepth 100000 in
set_option maxHeartbeats 0 in
theorem PySem.Challenge.cw_hullrests_k03_points_reckoned_with_holds : PySem.Challenge.rw_hullrests_k03_points_reckoned_with.Holds := by
  w_on; o_law; k_head;
        (case hw => w_witness2)
  k_fill
  refine K3.walk3 (l := PySem.Challenge.rw_hullrests_k03_points_reckoned_with) rfl rfl (fun w h Y => PySem.W.kIn_of Y) ?F
  case F =>
    intro w mg fa h KX G hmg
    have T : K3.Bl mg := by
      refine' ⟨PySem.W.mg_none_of KX G ?_, PySem.W.mg_none_of KX G ?_, PySem.W.mg_none_of KX G ?_, PySem.W.mg_none_of KX G ?_, PySem.W.mg_none_of KX G ?_, PySem.W.mg_none_of KX G ?_, PySem.W.mg_none_of KX G ?_, PySem.W.mg_none_of KX G ?_, PySem.W.mg_none_of KX G ?_, PySem.W.mg_none_of KX G ?_, PySem.W.mg_none_of KX G ?_, PySem.W.mg_none_of KX G ?_⟩ <;> k_is
    have mG : mg "gcd" = some (.builtin "math.gcd") := by
      refine' PySem.W.mg_of KX G ?_
      k_is
    refine' K3.law_all KX G hmg T mG
      (Ur.fnd_mk (x := "common_divisor") (st := K3.sCom) (ps := K3.p_common_divisor) KX G ?a0 ?l0 ?c0 ?k0 (fun _ _ _ _ _ _ us hl => match us, hl with | [_], _ => rfl))
      (Ur.fnd_mk (x := "is_whole") (st := K3.sWhole) (ps := K3.n_is_whole) KX G ?a1 ?l1 ?c1 ?k1 (fun _ _ _ _ _ _ us hl => match us, hl with | [_], _ => rfl))
      (Ur.fnd_mk (x := "wholes_fit") (st := K3.sWholes) (ps := K3.p_wholes_fit) KX G ?a2 ?l2 ?c2 ?k2 (fun _ _ _ _ _ _ us hl => match us, hl with | [_], _ => rfl))
      (Ur.fnd_mk (x := "fraction_fits") (st := K3.sFracF) (ps := K3.n_value) KX G ?a3 ?l3 ?c3 ?k3 (fun _ _ _ _ _ _ us hl => match us, hl with | [_], _ => rfl))
      (Ur.fnd_mk (x := "point_fits") (st := K3.sPointF) (ps := K3.n_value) KX G ?a4 ?l4 ?c4 ?k4 (fun _ _ _ _ _ _ us hl => match us, hl with | [_], _ => rfl))
      (Ur.fnd_mk (x := "sign_of") (st := K3.sSign) (ps := K3.p_n) KX G ?a5 ?l5 ?c5 ?k5 (fun _ _ _ _ _ _ us hl => match us, hl with | [_], _ => rfl))
      (Ur.fnd_mk (x := "ratio") (st := K3.sRatio) (ps := K3.p_ratio) KX G ?a6 ?l6 ?c6 ?k6 (fun _ _ _ _ _ _ us hl => match us, hl with | [_, _], _ => rfl))
      (Ur.fnd_mk (x := "place") (st := K3.sPlace) (ps := K3.p_place) KX G ?a7 ?l7 ?c7 ?k7 (fun _ _ _ _ _ _ us hl => match us, hl with | [_, _, _], _ => rfl))
      (Ur.fnd_mk (x := "place_sum") (st := K3.sPSum) (ps := K3.p_po) KX G ?a8 ?l8 ?c8 ?k8 (fun _ _ _ _ _ _ us hl => match us, hl with | [_, _], _ => rfl))
      (Ur.fnd_mk (x := "way_to") (st := K3.sWayTo) (ps := K3.p_po) KX G ?a9 ?l9 ?c9 ?k9 (fun _ _ _ _ _ _ us hl => match us, hl with | [_, _], _ => rfl))
      (Ur.fnd_mk (x := "place_times") (st := K3.sPTimes) (ps := K3.p_pf) KX G ?a10 ?l10 ?c10 ?k10 (fun _ _ _ _ _ _ us hl => match us, hl with | [_, _], _ => rfl))
      (Ur.fnd_mk (x := "place_between") (st := K3.sPBetw) (ps := K3.p_pof) KX G ?a11 ?l11 ?c11 ?k11 (fun _ _ _ _ _ _ us hl => match us, hl with | [_, _, _], _ => rfl))
      (Ur.fnd_mk (x := "inner_of") (st := K3.sInnerOf) (ps := K3.p_po) KX G ?a12 ?l12 ?c12 ?k12 (fun _ _ _ _ _ _ us hl => match us, hl with | [_, _], _ => rfl))
      (Ur.fnd_mk (x := "cross_of") (st := K3.sCrossOf) (ps := K3.p_po) KX G ?a13 ?l13 ?c13 ?k13 (fun _ _ _ _ _ _ us hl => match us, hl with | [_, _], _ => rfl))
      (Ur.fnd_mk (x := "quarter_of") (st := K3.sQuarterOf) (ps := K3.p_p) KX G ?a14 ?l14 ?c14 ?k14 (fun _ _ _ _ _ _ us hl => match us, hl with | [_], _ => rfl))
      (Ur.fnd_mk (x := "line_through_both") (st := K3.sLine) (ps := K3.p_po) KX G ?a15 ?l15 ?c15 ?k15 (fun _ _ _ _ _ _ us hl => match us, hl with | [_, _], _ => rfl))
      (Ur.fnd_mk (x := "side_of") (st := K3.sSideOf) (ps := K3.p_pot) KX G ?a16 ?l16 ?c16 ?k16 (fun _ _ _ _ _ _ us hl => match us, hl with | [_, _, _], _ => rfl))
      (Ur.fnd_mk (x := "check_point") (st := K3.sChkP) (ps := K3.n_value) KX G ?a17 ?l17 ?c17 ?k17 (fun _ _ _ _ _ _ us hl => match us, hl with | [_], _ => rfl))
      (Ur.fnd_mk (x := "check_fraction") (st := K3.sChkF) (ps := K3.n_value) KX G ?a18 ?l18 ?c18 ?k18 (fun _ _ _ _ _ _ us hl => match us, hl with | [_], _ => rfl))
      (Ur.fndR_mk (x := "plus") (st := K3.sPlus) (ps := K3.p_po) KX G ?a19 ?l19 ?c19 ?k19 (fun _ _ _ _ _ _ us hl => match us, hl with | [_, _], _ => rfl) (fun _ _ _ _ _ _ ws hl => match ws, hl with | [_, _], _ => rfl))
      (Ur.fndR_mk (x := "minus") (st := K3.sMinus) (ps := K3.p_po) KX G ?a20 ?l20 ?c20 ?k20 (fun _ _ _ _ _ _ us hl => match us, hl with | [_, _], _ => rfl) (fun _ _ _ _ _ _ ws hl => match ws, hl with | [_, _], _ => rfl))
      (Ur.fndR_mk (x := "times") (st := K3.sTimes) (ps := K3.p_pf) KX G ?a21 ?l21 ?c21 ?k21 (fun _ _ _ _ _ _ us hl => match us, hl with | [_, _], _ => rfl) (fun _ _ _ _ _ _ ws hl => match ws, hl with | [_, _], _ => rfl))
      (Ur.fndN_mk (x := "between") (st := K3.sBetween) (ps := K3.p_pof) KX G ?a22 ?l22 ?c22 ?k22 (fun _ _ _ _ _ _ us hl => match us, hl with | [_, _, _], _ => rfl) (fun _ _ _ _ _ _ us ws h1 h2 => match us, ws, h1, h2 with | [_], [_, _], _, _ => rfl))
      (Ur.fndR_mk (x := "inner") (st := K3.sInner) (ps := K3.p_po) KX G ?a23 ?l23 ?c23 ?k23 (fun _ _ _ _ _ _ us hl => match us, hl with | [_, _], _ => rfl) (fun _ _ _ _ _ _ ws hl => match ws, hl with | [_, _], _ => rfl))
      (Ur.fndR_mk (x := "cross") (st := K3.sCross) (ps := K3.p_po) KX G ?a24 ?l24 ?c24 ?k24 (fun _ _ _ _ _ _ us hl => match us, hl with | [_, _], _ => rfl) (fun _ _ _ _ _ _ ws hl => match ws, hl with | [_, _], _ => rfl))
      (Ur.fndR_mk (x := "quarter") (st := K3.sQuarter) (ps := K3.p_p) KX G ?a25 ?l25 ?c25 ?k25 (fun _ _ _ _ _ _ us hl => match us, hl with | [_], _ => rfl) (fun _ _ _ _ _ _ ws hl => match ws, hl with | [_], _ => rfl))
      (Ur.fndR_mk (x := "sense") (st := K3.sSense) (ps := K3.p_pot) KX G ?a26 ?l26 ?c26 ?k26 (fun _ _ _ _ _ _ us hl => match us, hl with | [_, _, _], _ => rfl) (fun _ _ _ _ _ _ ws hl => match ws, hl with | [_, _, _], _ => rfl))
      (Ur.fnd_mk (x := "_law_urn") (st := K3.sUrn) (ps := K3.p_law_urn) KX G ?a27 ?l27 ?c27 ?k27 (fun _ _ _ _ _ _ us hl => match us, hl with | [_, _], _ => rfl))
      (Ur.fnd_mk (x := "_law_pull") (st := K3.sPull) (ps := ["_law_urn_here", "_law_many"]) KX G ?a28 ?l28 ?c28 ?k28 (fun _ _ _ _ _ _ us hl => match us, hl with | [_, _], _ => rfl))
      (Ur.fnd_mk (x := "_law_any") (st := K3.sAny) (ps := K3.p_law_any) KX G ?a29 ?l29 ?c29 ?k29 (fun _ _ _ _ _ _ us hl => match us, hl with | [_, _], _ => rfl))
      (Ur.fnd_mk (x := "_law_num") (st := K3.sNum) (ps := K3.p_law_num) KX G ?a30 ?l30 ?c30 ?k30 (fun _ _ _ _ _ _ us hl => match us, hl with | [_, _], _ => rfl))
      (Ur.fnd_mk (x := "_law_laps") (st := K3.sLaps) (ps := K3.p_law_laps) KX G ?a31 ?l31 ?c31 ?k31 (fun _ _ _ _ _ _ us hl => match us, hl with | [_], _ => rfl))
      (Ur.fnd_mk (x := "_law_gcd") (st := K3.sGcd) (ps := K3.p_law_gcd) KX G ?a32 ?l32 ?c32 ?k32 (fun _ _ _ _ _ _ us hl => match us, hl with | [_, _], _ => rfl))
      (Ur.fnd_mk (x := "_law_thin") (st := K3.sThin) (ps := K3.p_law_thin) KX G ?a33 ?l33 ?c33 ?k33 (fun _ _ _ _ _ _ us hl => match us, hl with | [_], _ => rfl))
      (Ur.fnd_mk (x := "_law_frac") (st := K3.sLFrac) (ps := K3.p_lfrac) KX G ?a34 ?l34 ?c34 ?k34 (fun _ _ _ _ _ _ us hl => match us, hl with | [_, _], _ => rfl))
      (Ur.fnd_mk (x := "_law_sign") (st := K3.sLSign) (ps := K3.p_lnum) KX G ?a35 ?l35 ?c35 ?k35 (fun _ _ _ _ _ _ us hl => match us, hl with | [_], _ => rfl))
      (Ur.fnd_mk (x := "_law_spot") (st := K3.sLSpot) (ps := K3.p_lspot) KX G ?a36 ?l36 ?c36 ?k36 (fun _ _ _ _ _ _ us hl => match us, hl with | [_, _, _], _ => rfl))
      (Ur.fnd_mk (x := "_law_way") (st := K3.sLWay) (ps := K3.p_lway) KX G ?a37 ?l37 ?c37 ?k37 (fun _ _ _ _ _ _ us hl => match us, hl with | [_, _], _ => rfl))
      (Ur.fnd_mk (x := "_law_on") (st := K3.sLOn) (ps := K3.p_lon) KX G ?a38 ?l38 ?c38 ?k38 (fun _ _ _ _ _ _ us hl => match us, hl with | [_, _], _ => rfl))
      (Ur.fnd_mk (x := "_law_by") (st := K3.sLBy) (ps := K3.p_lby) KX G ?a39 ?l39 ?c39 ?k39 (fun _ _ _ _ _ _ us hl => match us, hl with | [_, _], _ => rfl))
      (Ur.fnd_mk (x := "_law_cross") (st := K3.sLCross) (ps := K3.p_lsg) KX G ?a40 ?l40 ?c40 ?k40 (fun _ _ _ _ _ _ us hl => match us, hl with | [_, _], _ => rfl))
      (Ur.fnd_mk (x := "_law_dot") (st := K3.sLDot) (ps := K3.p_lsg) KX G ?a41 ?l41 ?c41 ?k41 (fun _ _ _ _ _ _ us hl => match us, hl with | [_, _], _ => rfl))
      (Ur.fnd_mk (x := "_law_quarter") (st := K3.sLQuarter) (ps := K3.p_lstep) KX G ?a42 ?l42 ?c42 ?k42 (fun _ _ _ _ _ _ us hl => match us, hl with | [_], _ => rfl))
      (Ur.fnd_mk (x := "_law_side") (st := K3.sLSide) (ps := K3.p_lside) KX G ?a43 ?l43 ?c43 ?k43 (fun _ _ _ _ _ _ us hl => match us, hl with | [_, _, _], _ => rfl))
      (Ur.fnd_mk (x := "_law_drawn") (st := K3.sDrawn) (ps := K3.p_drawn) KX G ?a44 ?l44 ?c44 ?k44 (fun _ _ _ _ _ _ us hl => match us, hl with | [_], _ => rfl))
      (Ur.fnd_mk (x := "_law_right") (st := K3.sRight) (ps := K3.p_law_right) KX G ?a45 ?l45 ?c45 ?k45 (fun _ _ _ _ _ _ us hl => match us, hl with | [_], _ => rfl))
      ?a ?l ?c ?k
    (case a0 => k_is); (case l0 => k_is); (case c0 => k_is); (case k0 => k_is)
    (case a1 => k_is); (case l1 => k_is);
          (case c1 => k_is); (case k1 => k_is)
    (case a2 => k_is); (case l2 => k_is);
          (case c2 => k_is); (case k2 => k_is)
    (case a3 => k_is); (case l3 => k_is);
          (case c3 => k_is); (case k3 => k_is)
    (case a4 => k_is); (case l4 => k_is);
          (case c4 => k_is); (case k4 => k_is)
    (case a5 => k_is); (case l5 => k_is); (case c5 => k_is); (case k5 => k_is)
    (case a6 => k_is); (case l6 => k_is); (case c6 => k_is); (case k6 => k_is)
    (case a7 => k_is); (case l7 => k_is); (case c7 => k_is); (case k7 => k_is)
    (case a8 => k_is); (case l8 => k_is); (case c8 => k_is); (case k8 => k_is)
    (case a9 => k_is); (case l9 => k_is); (case c9 => k_is); (case k9 => k_is)
    (case a10 => k_is); (case l10 => k_is); (case c10 => k_is); (case k10 => k_is)
    (case a11 => k_is); (case l11 => k_is); (case c11 => k_is); (case k11 => k_is)
    (case a12 => k_is); (case l12 => k_is); (case c12 => k_is); (case k12 => k_is)
    (case a13 => k_is); (case l13 => k_is); (case c13 => k_is); (case k13 => k_is)
    (case a14 => k_is); (case l14 => k_is); (case c14 => k_is); (case k14 => k_is)
    (case a15 => k_is); (case l15 => k_is); (case c15 => k_is); (case k15 => k_is)
    (case a16 => k_is); (case l16 => k_is); (case c16 => k_is); (case k16 => k_is)
    (case a17 => k_is); (case l17 => k_is); (case c17 => k_is); (case k17 => k_is)
    (case a18 => k_is); (case l18 => k_is); (case c18 => k_is); (case k18 => k_is)
    (case a19 => k_is); (case l19 => k_is); (case c19 => k_is); (case k19 => k_is)
    (case a20 => k_is); (case l20 => k_is); (case c20 => k_is); (case k20 => k_is)
    (case a21 => k_is); (case l21 => k_is); (case c21 => k_is); (case k21 => k_is)
    (case a22 => k_is); (case l22 => k_is); (case c22 => k_is); (case k22 => k_is)
    (case a23 => k_is); (case l23 => k_is); (case c23 => k_is); (case k23 => k_is)
    (case a24 => k_is); (case l24 => k_is); (case c24 => k_is); (case k24 => k_is)
    (case a25 => k_is); (case l25 => k_is); (case c25 => k_is); (case k25 => k_is)
    (case a26 => k_is); (case l26 => k_is); (case c26 => k_is); (case k26 => k_is)
    (case a27 => k_is); (case l27 => k_is); (case c27 => k_is); (case k27 => k_is)
    (case a28 => k_is); (case l28 => k_is); (case c28 => k_is); (case k28 => k_is)
    (case a29 => k_is); (case l29 => k_is); (case c29 => k_is); (case k29 => k_is)
    (case a30 => k_is); (case l30 => k_is); (case c30 => k_is); (case k30 => k_is)
    (case a31 => k_is); (case l31 => k_is); (case c31 => k_is); (case k31 => k_is)
    (case a32 => k_is); (case l32 => k_is); (case c32 => k_is); (case k32 => k_is)
    (case a33 => k_is); (case l33 => k_is); (case c33 => k_is); (case k33 => k_is)
    (case a34 => k_is); (case l34 => k_is); (case c34 => k_is); (case k34 => k_is)
    (case a35 => k_is); (case l35 => k_is); (case c35 => k_is); (case k35 => k_is)
    (case a36 => k_is); (case l36 => k_is); (case c36 => k_is); (case k36 => k_is)
    (case a37 => k_is); (case l37 => k_is); (case c37 => k_is); (case k37 => k_is)
    (case a38 => k_is); (case l38 => k_is); (case c38 => k_is); (case k38 => k_is)
    (case a39 => k_is); (case l39 => k_is); (case c39 => k_is); (case k39 => k_is)
    (case a40 => k_is); (case l40 => k_is); (case c40 => k_is); (case k40 => k_is)
    (case a41 => k_is); (case l41 => k_is); (case c41 => k_is); (case k41 => k_is)
    (case a42 => k_is); (case l42 => k_is); (case c42 => k_is); (case k42 => k_is)
    (case a43 => k_is); (case l43 => k_is); (case c43 => k_is); (case k43 => k_is)
    (case a44 => k_is); (case l44 => k_is); (case c44 => k_is); (case k44 => k_is)
    (case a45 => k_is); (case l45 => k_is); (case c45 => k_is); (case k45 => k_is)
    (case a => k_is); (case l => k_is); (case c => k_is); (case k => k_is)
#print axioms PySem.Challenge.cw_hullrests_k03_points_reckoned_with_holds

