import PyProof.Rows.All
import Wide.All
import OpenK.AllK
import Wide.FinOn
import PyProof.EqAt
import PyProof.EqKinds
import PyProof.TupleCall
import HandS.Base
import HandS.Call
import HandS.List
import HandS.Comp
import HandS.Ends
import HandS.Words
import PyProof.ReprRoads
import HandS.Dict
import HandS.Iter
import HandS.Text
import HandS.WordsList
import HandS.Conv
import HandS.IsInst
import HandS.Gcd
import HandS.Wide
import PySem.Challenge.RW_hullrests_k02_fractions_points_direction
set_option Elab.async false
set_option linter.all false
set_option maxRecDepth 100000
namespace Ur
open PySem L2

def nums (a b c : Int) : List V := [.int a, .int b, .int c]
structure Bd (a b c : Int) : Prop where
  a0 : 0 ≤ a
  b0 : 0 ≤ b
  b1 : b < 4294967296
  c0 : 0 ≤ c
  c1 : c < 4294967296
/-- an urn: a list of three numbers within bounds, whichever -/
def UrnO (u : Addr) : HO := .ext fun h => ∃ (a b c : Int) (its : List Value) (n : Nat), Bd a b c ∧ Vals (nums a b c) its ∧ h.get? u = some { cls := .type "list", data := .seq its.toArray n }

section
variable {X : Cx} {pins : List (Addr × Obj)} {σ : L2.St} {H : Hp} {s : Shared} {u : Addr}
theorem urnOpen (I : Inv X pins σ H s) (h : H u = some (UrnO u)) : ∃ a b c, Bd a b c ∧ Inv X pins σ (upd H u (.lst (nums a b c))) s := by
  obtain ⟨⟨a, b, c, its, n, B, r, e⟩, _⟩ := I.hok u _ h
  refine ⟨a, b, c, B, I.write (x := u) (e := u) (t' := s.toks) (h' := s.heap) (by rw [h]; exact trivial) (.inl rfl) (fun b v _ q => q) ⟨_, e⟩ ?_⟩
  exact ⟨by show 3 ≤ sizeLine; decide, its, n, r, e⟩
theorem urnShut {a b c : Int} (I : Inv X pins σ H s) (h : H u = some (.lst (nums a b c))) (B : Bd a b c) : Inv X pins σ (upd H u (UrnO u)) s := by
  obtain ⟨_, its, n, r, e⟩ := I.hok u _ h
  refine I.write (x := u) (e := u) (t' := s.toks) (h' := s.heap) (by rw [h]; exact trivial) (.inl rfl) (fun b v _ q => q) ⟨_, e⟩ ?_
  exact ⟨⟨a, b, c, its, n, B, r, e⟩, ⟨_, e⟩, fun h1 h2 ⟨a, b, c, its, n, B, r, e⟩ k => ⟨a, b, c, its, n, B, r, k _ e⟩⟩
end
theorem upd_back {H : Hp} {u : Addr} {o p : HO} (h : H u = some o) : upd (upd H u p) u o = H := by
  funext b
  by_cases e : b = u
  · rw [e, upd_same, h]
  · rw [upd_ne e, upd_ne e]

def Shut (u : Addr) (Q : Hp → Prop) (H : Hp) : Prop := ∃ a b c, Bd a b c ∧ H u = some (.lst (nums a b c)) ∧ Q (upd H u (UrnO u))
/-- the statements run while the urn is seen as a list -/
def tUrn (t : TS) : TS := fun D σ H => ∃ u, H u = some (UrnO u) ∧ ∀ a b c, Bd a b c → t ⟨fun σ' H' => Shut u (D.nx σ') H', fun v H' => Shut u (D.rt v) H', fun σ' H' => Shut u (D.bk σ') H', fun σ' H' => Shut u (D.ct σ') H'⟩ σ (upd H u (.lst (nums a b c)))
def tShut (t : TE) : TE := fun σ H Q => t σ H fun v H1 => ∃ u, v = .ref u ∧ Shut u (Q v) H1
section
variable {X : Cx}
theorem pss_urn {sts : List Stmt} {t : TS} (h : PSs X sts t) : PSs X sts (tUrn t) := by
  refine ⟨fun pins s
        σ H D I hw => ?_⟩
  obtain ⟨u, hu, hw⟩ := hw
  obtain ⟨a, b, c, B, I1⟩ := urnOpen I hu
  refine thn (h.run pins s σ _ _ I1 (hw a b c B)) fun f s1 q => ?_
  cases f with
  | next => obtain ⟨σ', H', I2, a, b, c, B, e, q⟩ := q; exact ⟨σ', _, urnShut I2 e B, q⟩
  | brk => obtain ⟨σ', H', I2, a, b, c, B, e, q⟩ := q; exact ⟨σ', _, urnShut I2 e B, q⟩
  | cont => obtain ⟨σ', H', I2, a, b, c, B, e, q⟩ := q; exact ⟨σ', _, urnShut I2 e B, q⟩
  | ret v => obtain ⟨x, σ', H', I2, r, a, b, c, B, e, q⟩ := q; exact ⟨x, σ', _, urnShut I2 e B, r, q⟩
theorem pe_shut {e : Expr} {t : TE} (h : PE X e t) : PE X e (tShut t) := by
  refine ⟨fun pins s
        σ H Q I hw => ?_⟩
  refine thn (h.run pins s σ _ _ I hw) fun v s1 ⟨x, H1, I2, r, u, e1, a, b, c, B, e2, q⟩ => ?_
  exact ⟨x, _, urnShut I2 e2 B, r, q⟩
/-- repr of data -/
def rRepr (K : PySem.W.Frag) : List V → Hp → VK → Prop := fun xs H Q => ∃ (a : Addr) (d : PyData), xs = [.ref a] ∧ Dp K H (.ref a) d ∧ d.showable = true ∧ d.hasDict = false ∧ d.shown.length ≤ sizeLine ∧ d.depth ≤ 60 ∧ Q (.str d.shown) H
end
end Ur
namespace Ur
open PySem L2
section
variable {X : Cx}
theorem call_repr (hg : X.A.guards = some []) (hu : X.A.units + 64 < cLine) : CallR X (.builtin "repr") (rRepr X.K) := by
  intro pins s σ
        H xs us Q I r h
  obtain ⟨a, d, rfl, hd, h1, h2, h3, h4, q⟩ := h
  cases r with
  | cons ra rn =>
    cases rn
    obtain rfl := (show _ = Value.ref a from ra)
    obtain ⟨as, hr⟩ := Dp.reads I d _ _ hd rfl
    exact repr_of_reads' hr h1 (fun z => by rw [h2] at z; cases z) hg (by omega) (fun b o e => e) (fun h' u tk hk => ⟨.str d.shown, H, I.kept hk, ⟨u, rfl⟩, q⟩) h3
end
/-- a def's promise where no repr runs around it -/
structure FnG (P : Program) (w : World) (K : PySem.W.Frag) (mg : Str → Option Value) (base : Heap) (CX : CXT) (k : Nat) (f : Addr) (fd : FuncData) (ps : List Str) (sp : Sp) : Prop where
  lens : ∀ vs H Q E, sp vs H Q E → vs.length = ps.length
  go : ∀ (A : Around) (outer : List Env) (s : Shared) (H : Hp) (args : Args) (us : List Value) (vs : List V) (Q : VK) (E : XK), A.guards = some [] → Room k A → Env0 P w K mg base A outer s H →
    BindsTo s fd args (ps.zip us) → Vals vs us → sp vs H Q E → codeAny (model P w) A (.call (.ref f) args) (CR CX outer P w H s Q E) s
section
variable {X : Cx} {CX : CXT} {k : Nat} {f : Addr} {fd : FuncData} {ps : List Str} {sp : Sp} {E : XK} {ds : List Value} {dvs : List V}
theorem callG {x : Str} {p pos : Pos} {e : Expr} {es : List Expr} {t : TA} (F : FnG X.prog X.w X.K X.mg X.base CX k f fd ps sp) (hg : X.A.guards = some []) (hr : Room k X.A) (hgl : Gl X x) (hm : X.mg x = some (.ref f))
    (hk : PySem.W.keepIn X.K (.ref f) = true) (hb : Binds X.K fd ps []) (hx : Passes CX X E) (ha : PA X (e :: es) t) (hdb : (x == ("__debug__" : Str)) = false := by decide)
    (he : starEach (e :: es) X.env = (false, eval e X.env) :: starEach es X.env :=
          by rfl) (hpl : (backTo pos (starEach es X.env)).any (·.1) = false := by rfl) :
    PE X (.Call (.Name x p) (e :: es) [] pos) (tCall sp [] E t) := by
  constructor
  intro pins s σ H Q I h
  apply wpAny_Call_Name_kw
  apply ld_glob I hgl hm _ hdb
  apply PySem.W.callWith_K (h₀ := X.base) I.ok.mod.kin hk _ he hpl
  refine thn (ha.run pos pins s σ H _ I h) ?_
  rintro us s1 ⟨vs, H1, I1, r, q⟩
  refine ⟨I1.kIn, ?_⟩
  have q' : sp vs H1 Q E := by simpa using q
  have hl : us.length = ps.length := by
    rw [← r.length]
    exact F.lens _ _ _ _ q'
  have b1 : BindsTo s1 fd ⟨us, []⟩ (ps.zip us) := by simpa using hb s1 us I1.kIn (by simpa using hl)
  apply wpAny_call
  refine codeAny_mono (F.go X.A X.stack s1 H1 ⟨us, []⟩ us vs Q E hg hr I1.env0 b1 r q') ?_
  intro res s' hq
  match res, hq with
  | .error e, hq => exact hx pins σ H1 s1 e s' I1 hq
  | .ok (.ret u), hq => exact I1.after hq
end
end Ur

namespace Ur
open PySem L2 PyProof.Rows
section
variable {P : Program} {w : World} {K :
      PySem.W.Frag} {mg : Str → Option Value} {base : Heap}
/-- the rule for a def that asks that no repr runs around it -/
theorem okG {x qual : Str} {st : Stmt} {f : Addr} {fd : FuncData} {N ps : List Str} {k : Nat} {sp : Sp} (F : Fun K x qual st f fd) (S : FnScope N ps (defScope st))
    (len : ∀ vs H Q E, sp vs H
          Q E → vs.length = ps.length)
    (body : ∀ (cdv : Value) (A : Around) (outer : List Env) (s : Shared) (H : Hp) (vs : List V) (Q : VK) (E : XK), A.guards = some [] → Room k (A.deeper (envOfC qual (defScope st) s.heap.objs.size f cdv)) →
      sp vs H Q E → ∃ t, PSs (cxOf CX0 P w K mg base N qual (defScope st) f cdv A outer s H E).nox (defBody st) t ∧ t { nx := fun _ H' => Q .non H', rt := Q } (start N vs) H) :
    FnG P w K mg base CX0 (k + 1) f fd ps sp := by
  obtain ⟨oc, od, kV, doc, pm, an,
        cdv, ct, osl, rfl, lk, hcd⟩ := F.ex
  refine ⟨len, ?_⟩
  intro A outer s H args us vs Q E hg hr e0 hb r hsp
  have old : ∀ b o, base.get? b = some o → s.heap.get? b = some o := fun b o e => (e0.bs b o e).1
  have KX := e0.mod.kin.keeps old
  apply codeAny_call_function hr.depth (KX _ _ lk) rfl S.co S.gen rfl (PySem.W.codeRec_of KX hcd)
  apply hb
  apply wpAny_newFunctionEnv_cells S.kind
  · rintro ⟨n, v⟩ hy
    have hn := (List.of_mem_zip hy).1
    cases S.par n hn with
    | inl q => exact Or.inl q
    | inr q => exact Or.inr ⟨q, PySem.W.cellsFrom_some _ _ _ (Or.inl q)⟩
  intro env he s1 x
  subst he
  refine ⟨(e0.mod.nolimit.keeps old).keeps x.toInCall.keep, ?_⟩
  apply codeAny_func
  obtain ⟨t, ht, hq⟩ := body cdv A outer s H vs Q E hg (hr.deeper _) hsp
  have I := inv_start (CX := CX0) (E := E) S hr.hd e0 (len _ _ _ _ hsp) r x
  refine wpAny_mono (ht.nox.run [] s1 (start N vs) H _ I hq) ?_ (fun _ _ z => z)
  intro fl s' hs
  match fl, hs with
  | .ret u, ⟨v, _, H', J, rv, q⟩ => exact ⟨v, H', J.os, J.bare, J.base, J.hok, rv, q⟩
  | .next, ⟨_, H', J, q⟩ => exact ⟨V.non, H', J.os, J.bare, J.base, J.hok, rfl, q⟩
  | .brk, ⟨_, _, _, q⟩ => exact False.elim q
  | .cont, ⟨_, _, _, q⟩ => exact False.elim q
end
end Ur

namespace Ur
open PySem L2 PyProof.Rows
section
variable {P : Program} {w : World} {K : PySem.W.Frag} {mg mb : Str → Option Value} {k : Nat} {fa a : Addr} {fd : FuncData} {x : Str} {sp : Sp} {s1 : Shared} {vs : List Value} {ns : List Int}
abbrev Goes (fa a : Addr) (P : Program) (w : World) (s1 : Shared) : Prop :=
  codeAny (model P w) callerA (.call (.ref fa) ⟨[.ref a], []⟩) (fun r s' => r = .ok (.ret (.bool true)) ∧ OldK s1.heap s'.heap ∧ s'.os = s1.os ∧ AllBare s'.gens) s1
/-- from an abstract heap that tracks the script at most -/
theorem goes_of {H : Hp} (KX : K.In s1.heap) (hns : s1.heap.Ns mainGlobals mg) (hb : s1.heap.Ns builtinsNs mb) (hbb : ∀ y : Str, y ≠ "__name__" → mb y = bootBuiltins y) (hlim : s1.heap.NoLimit) (hg : s1.gens = #[])
    (ha : s1.heap.get? a = some { cls := .type "list", data := .seq vs.toArray }) (hr : Room k callerA)
    (F : ∀ base : Heap, K.In base → base.Ns mainGlobals mg → FnG P w K mg base CX0 k fa fd [x] sp) (bind : ∀ (s : Shared) (u : Value), BindsTo s fd ⟨[u], []⟩ [(x, u)])
    (hok : HOk P w H s1.heap) (hsp : sp [.ref a] H (fun v _ => v = .bl true) fun _ _ _ => False)
    (one : ∀ b, H b = none ∨ (b = a ∧ K.lookup a = none ∧ ∃ o ys, H b = some (.frz o (.lst ys)))) : Goes fa a P w s1 := by
  have seen : ∀ {b o}, s1.heap.get? b = some o → H b = none → (hidT s1.heap H).get? b = some o := fun e z => hidT_get e z
  have notD : ∀ {b o es ep}, s1.heap.get? b = some o → o.data = .dict es ep → H b = none := by
    intro b o es ep e d
    rcases one b with z | ⟨rfl, _, _⟩
    · exact z
    · rw [ha] at e
      obtain rfl := Option.some.inj e
      cases (show Data.seq vs.toArray _ = Data.dict es ep from d)
  have up : ∀ {b m}, s1.heap.Ns b m → (hidT s1.heap H).Ns b m := by
    rintro b m ⟨o, es, ep, e, d, r⟩
    exact ⟨o, es, ep, seen e (notD e d), d, r⟩
  have KB : K.In (hidT s1.heap H) := by
    intro b o e
    refine seen (KX b o e) ?_
    rcases one b with z | ⟨rfl, z, _⟩
    · exact z
    · rw [z] at e; cases e
  obtain ⟨mc, l1, l2⟩ := hlim
  have M : Mod K mg (hidT s1.heap H) := { kin := KB, glob := up hns, blt := ⟨mb, up hb, hbb⟩, nolimit := ⟨mc, up l1, l2⟩ }
  have e0 : Env0 P w K mg (hidT s1.heap H) callerA [] s1 H :=
    { frames := rfl, mod := M, bs := fun b o e => of_hidT e, bsz := Nat.le_of_eq (hidT_size _ _), funs := trivial, frf := fun b z => (by cases (show b ∈ ([] : List Addr) from z)), hok := hok, bare := .of_eq hg }
  refine codeAny_mono ((F _ KB (up hns)).go callerA [] s1 H ⟨[.ref a], []⟩ [.ref a] [.ref a] _ _ rfl hr e0 (bind s1 (.ref a)) (.cons rfl .nil) hsp) ?_
  intro r s' h
  match r, h with
  | .ok (.ret u), ⟨v, H', os, bare, un, hok', rv, hv⟩ =>
    obtain rfl : v = .bl true := hv
    obtain rfl : u = Value.bool true := rv
    refine ⟨rfl, OldK.of_keep ?_, os, bare⟩
    intro b o e
    rcases one b with z | ⟨rfl, _, oo, ys, z⟩
    · exact un.keep b o e z (fun q => (by cases (show b ∈ ([] : List Addr) from q))) (fun q => nomatch q)
    · have e1 := (hok b _ z).1
      have e2 := (hok' b _ (un.frzs b oo _ z)).1
      rw [e] at e1
      obtain rfl :=
            Option.some.inj e1
      exact e2
theorem goes (KX : K.In s1.heap) (hns : s1.heap.Ns mainGlobals mg) (hb : s1.heap.Ns builtinsNs mb) (hbb : ∀ y : Str, y ≠ "__name__" → mb y = bootBuiltins y) (hlim : s1.heap.NoLimit) (hg : s1.gens = #[])
    (ha : s1.heap.get? a = some { cls := .type "list", data := .seq vs.toArray }) (hi : IntsAre vs ns) (hl : ns.length ≤ sizeLine) (hr : Room k callerA)
    (F : ∀ base : Heap, K.In base → base.Ns mainGlobals mg → FnG P w K mg base CX0 k fa fd [x] sp) (bind : ∀ (s : Shared) (u : Value), BindsTo s fd ⟨[u], []⟩ [(x, u)])
    (hsp : ∀ H : Hp, SqL K H a (ns.map V.int) → sp [.ref a] H (fun v _ => v = .bl true) fun _ _ _ => False) : Goes fa a P w s1 := by
  have rv := vals_ints hi
  cases hk : K.lookup a with
  | some o =>
    have e := KX a o hk
    rw [ha] at e
    obtain rfl := Option.some.inj e
    refine goes_of (H := fun _ => none) KX hns hb hbb hlim hg ha hr F bind (fun b u z => nomatch z) (hsp _ (Or.inr ⟨_, vs.toArray, _, hk, rfl, rfl, rfl, ?_, ?_⟩)) (fun b => Or.inl rfl)
    · rw [List.size_toArray, hi.length]; exact hl
    · exact rv
  | none =>
    let o : Obj := { cls := .type "list", data := .seq vs.toArray }
    let H : Hp := upd (fun _ => none) a (.frz o (.lst (ns.map V.int)))
    have hH : H a = some (.frz o (.lst (ns.map V.int))) := upd_same
    refine goes_of (H := H) KX hns hb hbb hlim hg ha hr F bind ?_ (hsp H (Or.inl (Or.inr ⟨o, hH⟩))) ?_
    · intro b u z
      by_cases e : b = a
      · subst e
        rw [hH] at z
        obtain rfl := Option.some.inj z
        refine ⟨ha, ?_, vs, _, rv, ha⟩
        rw [List.length_map]
        exact hl
      · rw [show H b = none from upd_ne e] at z
        cases z
    · intro b
      by_cases e : b = a
      · exact Or.inr ⟨e, hk, o, _, by rw [e]; exact hH⟩
      · exact Or.inl (upd_ne e)
end
theorem walkG {l : PySem.W.OpenLaw} {n k : Nat} {q : Program} {loose : List Str} {XP : (Str → Option Value) → Heap → Prop} {YP : World → Heap → Prop} {d : DefRec} {K : Params → PySem.W.Frag} {sp : PySem.W.Frag → Sp} {x : Str}
    (hn : l.most = some n) (hn2 : n ≤ sizeLine) (hdf : d.params.defaults = []) (hr
          : Room k callerA) (hY : ∀ (w : World) (h : Heap), YP w h → (K w.params).In h)
    (F : ∀ (w : World) (mg : Str → Option Value) (fa : Addr) (h : Heap),
          (K w.params).In h → h.Ns mainGlobals mg → mg d.name = some (.ref fa) →
      ∃ fd : FuncData, (∀ (s : Shared) (u : Value), BindsTo s fd ⟨[u], []⟩ [(x, u)]) ∧ ∀ base : Heap, (K w.params).In base → base.Ns mainGlobals mg → FnG l.prog w (K w.params) mg base CX0 k fa fd [x] (sp (K w.params)))
    (hsp : ∀ (K : PySem.W.Frag) (H : Hp) (a : Addr) (ns : List Int), ns.length ≤ n → SqL K H a (ns.map V.int) → sp K [.ref a] H (fun v _ => v = .bl true) fun _ _ _ => False) :
    PySem.W.WalkO q loose XP YP l.row.toRowW
          d [] (fun f vs => PySem.call f vs) := by
  apply Att.attach_call hn hdf
  intro w s0 s1 mg mb fa o pm cd doc a vs ns G Y ho hd hcd hmg hobj hints hlen hg
  obtain ⟨fd, hb, hF⟩ := F w mg fa _ (hY w _ Y) G.T.g hmg
  exact goes (hY w _ Y) G.T.g G.T.b G.T.builtins G.T.nolimit hg hobj hints (Nat.le_trans hlen hn2) hr hF hb fun H hS => hsp _ H a ns hlen hS
end Ur

namespace Ur
open PySem L2
/-- the def of this name keeps this promise -/
def Has (P : Program) (w : World) (K : PySem.W.Frag) (mg : Str → Option Value) (base : Heap) (x : Str) (ps : List Str) (k : Nat) (sp : Sp) : Prop :=
  ∃ f fd, FnOk P w K mg base CX0 k f fd ps sp ∧ mg x = some (.ref f) ∧ PySem.W.keepIn K (.ref f) = true ∧ Binds K fd ps []
/-- the def stands there -/
def Fnd (K : PySem.W.Frag) (mg : Str → Option Value) (x : Str) (st : Stmt) (ps : List Str) : Prop :=
  ∃ f fd, Fun K x x st f fd ∧ mg x = some (.ref f) ∧ Binds K fd ps []
def KwAll (K : PySem.W.Frag) (fd : FuncData) (ps : List Str) : Prop := KBinds K fd ps ps (fun us ws => us ++ ws) (fun vs zs => vs ++ zs)
section
variable {X : Cx} {x : Str} {p pos : Pos} {e : Expr} {es : List Expr} {t tk : TA} {ps : List Str} {k : Nat} {sp : Sp} {kws : List Keyword}
theorem pe_has (h : Has X.prog X.w X.K X.mg X.base x ps k sp) (hr : Room k X.A) (hg : Gl X x) (ha : PA X (e :: es) t) (hdb : (x == ("__debug__" : Str)) = false := by decide)
    (he : starEach (e :: es) X.env = (false, eval e X.env) :: starEach es X.env :=
          by rfl) (hpl : (backTo pos (starEach es X.env)).any (·.1) = false := by rfl) :
    PE X (.Call (.Name x p) (e :: es) [] pos) (tCall sp [] E0 t) := by
  obtain ⟨f, fd, G, m, kp, b⟩ := h
  exact pe_call G hr hg m kp b .nil pass0 ha hdb he hpl
def tHasK (sp : Sp) (tk : TA) : TE := fun σ H Q => tk σ H fun zs H1 => sp zs H1 Q E0
/-- all arguments by name, in their order -/
theorem pe_hasK0 (h : ∃ f fd, FnOk X.prog X.w X.K X.mg X.base CX0 k f fd ps sp ∧ X.mg x = some (.ref f) ∧ PySem.W.keepIn X.K (.ref f) = true ∧ KwAll X.K fd ps) (hr : Room k X.A) (hg : Gl X x) (hkw : PK X kws tk)
    (hall : (backToKw pos (keywordEach kws X.env)).all (·.1.isSome) = true := by rfl) (hks : (backToKw pos (keywordEach kws X.env)).filterMap (·.1) = ps := by rfl) (hdb : (x == ("__debug__" : Str)) = false := by decide)
    (hpl : ((backTo pos (starEach [] X.env)).any (·.1) || (backToKw
          pos (keywordEach kws X.env)).any (·.1.isNone)) = false := by rfl) :
    PE X (.Call (.Name x p) [] kws pos) (tHasK sp tk) := by
  obtain ⟨f, fd, G, m, kp, b⟩ := h
  constructor
  intro pins s σ H Q I hq
  apply wpAny_Call_Name_kw
  apply ld_glob I hg m _ hdb
  apply PySem.W.callWith_KW0 (h₀ := X.base) I.ok.mod.kin kp hall _ hpl
  refine thn (hkw.run pos pins s σ H _ I hq) ?_
  rintro ws s2 ⟨zs, H2, I2, rz, q2⟩
  refine ⟨I2.kIn, ?_⟩
  rw [hks]
  exact run_fnk (us := []) (vs := []) G hr b pass0 I2 .nil rz q2
end
end Ur

namespace Ur
open PySem L2
theorem same_new {H : Hp} {p : Addr} {o : HO} (h : H p = none) : Same H (upd H p o) := fun a u e => by
  rw [upd_ne (ne_of_none e h)]
  exact e
/-- a list that H does not know may grow -/
theorem same_own {H H' : Hp} {p : Addr} {o : HO} (e : Same H H') (h : H p = none) : Same H (upd H' p o) := fun a u q => by
  rw [upd_ne (ne_of_none q h)]
  exact e a u q
theorem same_sqT {K : PySem.W.Frag} {H H' : Hp} {a : Addr} {xs : List V} (e : Same H H') (h : SqT K H a xs) : SqT K H' a xs := by
  rcases h with (h
        | ⟨o, h⟩) | h
  · exact Or.inl (Or.inl (e _ _ h))
  · exact Or.inl (Or.inr ⟨o, e _ _ h⟩)
  · exact Or.inr h
theorem map_at {ns : List Int} {i : Nat} {x : V} (h : (ns.map V.int)[i]? = some x) : ∃ z, ns[i]? = some z ∧ x = V.int z := by
  rw [List.getElem?_map] at h
  cases e : ns[i]? with
  | none => rw [e]
        at h; cases h
  | some z => rw [e] at h; exact ⟨z, rfl, (Option.some.inj h).symm⟩
/-- what a comprehension without a test has made behind i turns -/
structure Made (H : Hp) (Pe : Nat → V → Prop) (D : Addr) (i : Nat) (H' : Hp) : Prop where
  new : H D = none
  same : Same H H'
  held : ∃ ys, H' D = some (.lst ys) ∧ ys.length = i ∧ ∀ j y, ys[j]? = some y → Pe j y
theorem Made.start {H : Hp} {Pe : Nat → V → Prop} {D : Addr} (h : H D = none) : Made H Pe D 0 (upd H D (.lst [])) :=
  ⟨h, same_new h, [], upd_same, rfl, fun j y e => by simp at e⟩
theorem Made.turn {H H3 : Hp} {Pe : Nat → V → Prop} {D : Addr} {i : Nat} {te : TE} {σ2 : L2.St} (m : Made H Pe D i H3) (hi : i < 100000)
    (he : ∀ Q' : VK, (∀ y H4, Pe i y → Same H3 H4 → Q' y H4) → te σ2 H3 Q') :
    te σ2 H3 fun y H4 => ∃ acc, H4 D = some (.lst acc) ∧ acc.length < sizeLine ∧ Made H Pe D (i + 1) (upd H4 D (.lst (acc ++ [y]))) := by
  obtain ⟨hn, sm, ys, h1, h2, h3⟩ := m
  refine he _ fun y H4 py s4 => ⟨ys, s4 _ _ h1, Nat.lt_of_lt_of_le (by omega : ys.length < 100000) (by decide), hn, same_own (sm.trans s4) hn, ys ++ [y], upd_same, by simp [h2], fun j z e => ?_⟩
  by_cases hj : j < ys.length
  · rw [List.getElem?_append_left hj] at e
    exact h3 j z e
  · rw [List.getElem?_append_right (by omega)] at e
    have : j = i := by
      have hl := (List.getElem?_eq_some_iff.mp e).1
      simp at hl
      omega
    subst this
    rw [← h2, Nat.sub_self] at e
    obtain rfl := Option.some.inj e
    exact py
section
variable {K : PySem.W.Frag} {a : Addr} {xs : List V} {te : TE} {vs : List Nat} {j : Nat} {σ : L2.St} {H : Hp} {Q : VK}
/-- [elt for x in t], t a tuple -/
theorem lcT {tl : TE} (Pe : Nat → V → Prop) (hx : ∀ R : VK, R (.ref a) H → tl σ H R) (hs : SqT K H a xs) (hz : xs.length ≤ 100000) (hw : ∀ x, wipe ((wipe σ vs).set j (some x)) vs = wipe σ vs)
    (he : ∀ i x H3, xs[i]? = some x → Same H H3 → ∀ Q' : VK, (∀ y H4, Pe i y → Same H3 H4 → Q' y H4) → te ((wipe σ vs).set j (some x)) H3 Q')
    (hq : ∀ D ys H', H D = none → Same H H' → H' D = some (.lst ys) → ys.length = xs.length → (∀ i y, ys[i]? = some y → Pe i y) → Q (.ref D) H') : tLc (iTup K tl) (gName j) tYes te vs σ H Q := by
  refine hx _ ⟨a, rfl, ⟨xs, hs⟩, fun D hD => ?_⟩
  refine lc_tup (xs := xs) (Made H Pe D) (.start hD) (fun i H' _ m => same_sqT m.same hs) (fun i x H' hi m => ⟨hw x, ?_⟩) (fun H' ⟨hn, sm, ys, h1, h2, h3⟩ => hq D ys H' hn sm h1 h2 h3)
  have hl := (List.getElem?_eq_some_iff.mp hi).1
  unfold tYes
  dsimp only
  rw [if_pos rfl]
  exact (m.turn (by omega) (he i x H' hi m.same))
/-- [elt for x in l], l a list -/
theorem lcL {tl : TE} (Pe : Nat → V → Prop) (hx : ∀ R : VK, R (.ref a) H → tl σ H R) (hs : SqL K H a xs) (hz : xs.length ≤ 100000) (hw : ∀ x, wipe ((wipe σ vs).set j (some x)) vs = wipe σ vs)
    (he : ∀ i x H3, xs[i]? = some x → Same H H3 → ∀ Q' : VK, (∀ y H4, Pe i y → Same H3 H4 → Q' y H4) → te ((wipe σ vs).set j (some x)) H3 Q')
    (hq : ∀ D ys H', H D = none → Same H H' → H' D = some (.lst ys) → ys.length = xs.length → (∀ i y, ys[i]? = some y → Pe i y) → Q (.ref D) H') : tLc (iList K tl) (gName j) tYes te vs σ H Q := by
  refine hx _ ⟨a, rfl, ⟨xs, hs⟩, fun D hD => ?_⟩
  refine lc_list (xs := xs) (Made H Pe D) (.start hD) (fun i H' _ m => m.same.seq hs) (fun i x H' hi m => ⟨hw x, ?_⟩) (fun H' ⟨hn, sm, ys, h1, h2, h3⟩ => hq D ys H' hn sm h1 h2 h3)
  have hl := (List.getElem?_eq_some_iff.mp hi).1
  unfold tYes
  dsimp only
  rw [if_pos rfl]
  exact (m.turn (by omega) (he i x H' hi m.same))
/-- [elt for x in range(n)] -/
theorem lcR {ta : TA} {n : Int} {H0 : Hp} (Pe : Nat → V → Prop) (hx : ∀ R : List V → Hp → Prop, (∀ H1, Same H0 H1 → R [.int n] H1) → ta σ H0 R) (h0 : 0 ≤ n) (hz : n ≤ 100000) (hw : ∀ x, wipe ((wipe σ vs).set j (some x)) vs = wipe σ vs)
    (he : ∀ (i : Nat) H3, i < n → Same H0 H3 → ∀ Q' : VK, (∀ y H4, Pe i y → Same H3 H4 → Q' y H4) → te ((wipe σ vs).set j (some (.int (0 + (i : Int))))) H3 Q')
    (hq : ∀ D ys H', H0 D = none → Same H0 H' → H' D = some (.lst ys) → (ys.length : Int) = n → (∀ i y, ys[i]? = some y → Pe i y) → Q (.ref D) H') : tLc (iRng1 ta) (gName j) tYes te vs σ H0 Q := by
  refine hx _ fun H1 s1 => ⟨n, rfl, by omega, by omega, fun D hD => ?_⟩
  refine lc_range (lo := 0) (n := n.toNat) (Made H1 Pe D) (.start hD) (fun i H' hi m => ⟨hw _, ?_⟩) (fun H' ⟨hn, sm, ys, h1, h2, h3⟩ => hq D ys H' (s1.free hn) (s1.trans sm) h1 (by omega) h3)
  unfold tYes
  dsimp only
  rw [if_pos rfl]
  exact (m.turn (by omega) (he i H' (by omega) (s1.trans m.same)))
end
end Ur
namespace Ur
open PySem L2
/-- a statement and the rest, with a word of one's own between them -/
def tMid (t u : TS) : TS := fun D σ H => ∃ M : L2.St → Hp → Prop, t { D with nx := M } σ H ∧ ∀ σ' H', M σ' H' → u D σ' H'
theorem pss_mid {X : Cx} {st : Stmt} {rest : List Stmt} {t u : TS} (h1 : PS X st t) (h2 : PSs X rest u) : PSs X (st :: rest) (tMid t u) := by
  constructor
  intro pins s σ H D I hw
  obtain ⟨M, hm, hu⟩ := hw
  apply wpAny_execs_cons
  refine thn (h1.run pins s σ H { D with nx := M } I hm) ?_
  intro f s1 q
  match f, q with
  | .next, ⟨σ', H', I', q⟩ => exact h2.run pins s1 σ' H' D I' (hu σ' H' q)
  | .ret v, q => exact q
  | .brk, q => exact q
  | .cont, q => exact q
theorem seq_of {t u : TS} {D : Ends} {σ : L2.St} {H : Hp} (h : t { D with nx := u D } σ H) : tSeq t u D σ H := h
theorem asg_of {te : TE} {g : TG} {D : Ends} {σ : L2.St} {H : Hp} (h : te σ H fun x H1 => g x σ H1 D.nx) : tAsg te g D σ H := h
theorem ixN_nat {n j : Nat} (h : j < n) : ixN n (j : Int) = some j := by
  unfold ixN
  rw [if_pos (by omega),
        if_pos (by omega)]
  rfl
end Ur

namespace Ur
open PySem L2
/-! ### values of any kind -/
inductive Kd where
  | non | bool | int | str | lst | tup | dic
  deriving DecidableEq
def Kd.nm : Kd → String
  | .non => "NoneType" | .bool => "bool" | .int => "int" | .str => "str" | .lst => "list" | .tup => "tuple" | .dic => "dict"
theorem kd_int (k : Kd) : kitB k.nm "int" = some (k == .int || k == .bool) := by cases k <;> decide +kernel
theorem kd_bool (k : Kd) : kitB k.nm "bool" = some (k == .bool) := by cases k <;> decide +kernel
theorem kd_tup (k : Kd) : kitB k.nm "tuple" = some (k == .tup) := by cases k <;> decide +kernel
def OfKd (K : PySem.W.Frag) (H : Hp) (x : V) (k : Kd) : Prop := TyX K H x (.type k.nm)
def wh : V → Bool
  | .int _ => true
  | _ => false
theorem nm_inj {k l : Kd} (h : k.nm = l.nm) : k = l := by
  cases k <;> cases l <;> first | rfl | (exact absurd h (by decide))
theorem ofKd_wh {K : PySem.W.Frag} {H : Hp} {x : V} {k : Kd} (h : OfKd K H x k) : (k == .int) = wh x := by
  have no : ∀ l : Kd, l ≠ .int → Value.type k.nm = Value.type l.nm → (k == Kd.int) = false := fun l hl e => by
    have : k = l := nm_inj (by injection e)
    subst this
    exact beq_eq_false_iff_ne.mpr hl
  have yes : Value.type k.nm = Value.type Kd.int.nm → (k == Kd.int) = true := fun e => by
    have : k = .int := nm_inj (by injection e)
    subst this
    rfl
  unfold OfKd at h
  generalize ht : Value.type k.nm = t at h
  cases h with
  | base b =>
    cases b with
    | non => exact no .non (by decide) ht
    | bl y => exact no .bool (by decide) ht
    | int i => exact yes ht
    | str y => exact no .str (by decide) ht
    | flt y =>
      have e : k.nm = "float" := by injection ht
      cases k <;> exact absurd e (by decide)
    | lst e => exact no .lst (by decide) ht
    | frz e => exact no .lst (by decide) ht
    | tup e => exact no .tup (by decide) ht
    | dK e => exact no .dic (by decide) ht
    | dT e => exact no .dic (by decide) ht
    | ins e _ _ _ _ _ => cases ht
  | byt y =>
    have e : k.nm = "bytes" := by injection ht
    cases k <;> exact absurd e (by decide)
  | set e =>
    have e : k.nm = "set" := by injection ht
    cases k <;> exact absurd e (by decide)
  | kList e c => exact no .lst (by decide) ht
  | kTuple e c => exact no .tup (by decide) ht
  | kDict e c => exact no .dic (by decide) ht
  | fTuple e => exact no .tup (by decide) ht
  | fDict e => exact no .dic (by decide) ht
theorem ofKd_same {K : PySem.W.Frag} {H H' : Hp} {x : V} {k : Kd} (s : Same H H') (h : OfKd K H x k) : OfKd K H' x k := by
  unfold OfKd at h ⊢
  generalize Value.type k.nm = t at h ⊢
  cases h with
  | base b =>
    refine .base ?_
    cases b with
    | non => exact .non
    | bl y => exact .bl y
    | int i => exact .int i
    | str y => exact .str y
    | flt y => exact .flt y
    | lst e => exact .lst (s _ _ e)
    | frz e => exact .frz (s _ _ e)
    | tup e => exact .tup (s _ _ e)
    | dK e => exact .dK (s _ _ e)
    | dT e => exact .dT (s _ _ e)
    | ins e a b c d f => exact .ins (s _ _ e) a b c d f
  | byt y => exact .byt y
  | set e => exact .set (s _ _ e)
  | kList e c => exact .kList e c
  | kTuple e c => exact .kTuple e c
  | kDict e c => exact .kDict e c
  | fTuple e => exact .fTuple (s _ _ e)
  | fDict e => exact .fDict (s _ _ e)
theorem tup_kd {K : PySem.W.Frag} {H : Hp} {a : Addr} {xs : List V} (h : SqT K H a xs) : OfKd K H (.ref a) .tup := by
  rcases h with (h | ⟨o, h⟩) | ⟨o, its, n, h, c, _⟩
  · exact .base (.tup h)
  · exact .fTuple h
  · exact .kTuple h c
theorem all_wh : ∀ {xs : List V}, xs.all wh = true → ∃ ns : List Int, xs = ns.map V.int
  | [], _ => ⟨[], rfl⟩
  | x :: r, h => by
    rw [List.all_cons,
          Bool.and_eq_true] at h
    obtain ⟨ns, rfl⟩ := all_wh h.2
    cases x with
    | int i => exact ⟨i :: ns, rfl⟩
    | _ => exact absurd h.1 (by simp [wh])
theorem ints_wh (ns : List Int) : (ns.map V.int).all wh = true := by
  rw [List.all_map]
  exact List.all_eq_true.mpr
        fun _ _ => rfl
mutual
theorem dp_same {K : PySem.W.Frag} {H H' : Hp} (s : Same H H') : ∀ {v : V} {d : PyData}, Dp K H v d → Dp K H' v d
  | _, _, .non => .non
  | _, _, .bl b => .bl b
  | _, _, .int i => .int i
  | _, _, .str x => .str x
  | _, _, .lst h1 h2 => .lst (s.seq h1) (dpAll_same s h2)
  | _, _, .tup h1 h2 => .tup (same_sqT s h1) (dpAll_same s h2)
theorem dpAll_same {K : PySem.W.Frag} {H H' : Hp} (s : Same H H') : ∀ {vs : List V} {ds : List PyData}, DpAll K H vs ds → DpAll K H' vs ds
  | _, _, .nil => .nil
  | _, _, .cons h1 h2 => .cons (dp_same s h1) (dpAll_same s h2)
end
/-- an item of such a tuple -/
structure It (K : PySem.W.Frag) (H : Hp) (y : V) : Prop where
  kd : ∃ l, OfKd K H y l
  dat : ∃ d, Dp K H y d ∧ d.canLay0 = true ∧ d.depth ≤ 8
theorem It.same {K : PySem.W.Frag} {H H' : Hp} {y : V} (s : Same H H') (h : It K H y) : It K H' y :=
  ⟨let ⟨l, a⟩ := h.kd; ⟨l, ofKd_same s a⟩, let ⟨d, a, b⟩ := h.dat; ⟨d, dp_same s a, b⟩⟩
/-- a value of any kind, seen as an argument: its kind, and its items if it is a tuple -/
structure Arg (K : PySem.W.Frag) (H : Hp) (x : V) (k : Kd) (xs : List V) : Prop where
  ty : OfKd K H x k
  its : k = .tup → ∃ a, x = .ref a ∧ SqT K H a xs ∧ xs.length ≤ 1000 ∧ (∀ y ∈ xs, It K H y) ∧ ∀ i, V.int i ∈ xs → i.natAbs < 2 ^ 9000
theorem Arg.same {K : PySem.W.Frag} {H H' : Hp} {x : V} {k : Kd} {xs : List V} (s : Same H H') (A : Arg K H x k xs) : Arg K H' x k xs :=
  ⟨ofKd_same s A.ty, fun e => let ⟨a, e1, e2, e3, e4, e5⟩ := A.its e; ⟨a, e1, same_sqT s e2, e3, fun y hy => (e4 y hy).same s, e5⟩⟩
/-! ### tuples of ints as data -/
theorem dpAll_ints {K : PySem.W.Frag} {H : Hp} : ∀ ns : List Int, DpAll K H (ns.map V.int) (ns.map PyData.int)
  | [] => .nil
  | n :: r => .cons (.int n) (dpAll_ints r)
theorem dp_ints {K : PySem.W.Frag} {H : Hp} {a : Addr} {ns : List Int} (h : SqT K H a (ns.map V.int)) : Dp K H (.ref a) (.tuple (ns.map PyData.int)) := .tup h (dpAll_ints ns)
theorem lay_ints : ∀ ns : List Int, PyData.canLayAll0 (ns.map PyData.int) = true
  | [] => rfl
  | _ :: r => by
    show (true && PyData.canLayAll0 (r.map PyData.int)) = true
    rw [lay_ints r]
    rfl
theorem depth_ints : ∀ ns : List Int, PyData.depthAll (ns.map PyData.int) = 0
  | [] => rfl
  | _ :: r => by
    show max 0 (PyData.depthAll (r.map PyData.int)) = 0
    rw [depth_ints r]
    rfl
theorem shaped_ints (ns : List Int) : SeqAt.shaped (.tuple (ns.map PyData.int)) = true := by
  unfold SeqAt.shaped
  show (PyData.canLayAll0 _ && decide (PyData.depthAll _ + 1 ≤ 64)) = true
  rw [lay_ints, depth_ints]
  rfl
theorem eqvAll_ints : ∀ a b : List Int, PyData.eqvAll (a.map PyData.int) (b.map PyData.int) = decide (a = b)
  | [], [] => rfl
  | [], _ :: _ =>
        by simp [PyData.eqvAll]
  | _ :: _, [] =>
        by simp [PyData.eqvAll]
  | x :: a, y :: b => by
    show ((x == y) && PyData.eqvAll (a.map PyData.int) (b.map PyData.int)) = _
    rw [eqvAll_ints a b]
    by_cases e : x = y
    · subst e; simp
    · simp [e]
theorem eqv_ints (a b : List Int) : PyData.eqv (.tuple (a.map PyData.int)) (.tuple (b.map PyData.int)) = decide (a = b) := eqvAll_ints a b
/-- a list of such items as data -/
theorem its_dat {K : PySem.W.Frag} {H : Hp} : ∀ {ys : List V}, (∀ y ∈ ys, It K H y) → ∃ ds, DpAll K H ys ds ∧ PyData.canLayAll0 ds = true ∧ PyData.depthAll ds ≤ 8 ∧ ds.length = ys.length
  | [], _ => ⟨[], .nil, rfl, by decide, rfl⟩
  | y :: r, h => by
    obtain ⟨d, h1, h2, h3⟩ := (h y List.mem_cons_self).dat
    obtain ⟨ds, g1, g2, g3, g4⟩ := its_dat (ys := r) fun z hz => h z (List.mem_cons_of_mem _ hz)
    refine ⟨d :: ds, .cons h1 g1, ?_, ?_, by simp [g4]⟩
    · show (PyData.canLay0 d && PyData.canLayAll0 ds) = true
      rw [h2, g2]
      rfl
    · show max (PyData.depth d) (PyData.depthAll ds) ≤ 8
      omega
/-- a comprehension with a test that keeps items as they are -/
structure Kept (H : Hp) (xs : List V) (f : V → Bool) (D : Addr) (i : Nat) (H' : Hp) : Prop where
  new : H D = none
  same : Same H H'
  held : H' D = some (.lst ((xs.take i).filter f))
theorem lcTf {K : PySem.W.Frag} {a : Addr} {xs : List V} {tl te : TE} {tt : TT} {vs : List Nat} {j : Nat} {σ : L2.St} {H : Hp} {Q : VK} (f : V → Bool) (hx : ∀ R : VK, R (.ref a) H → tl σ H R) (hs : SqT K H a xs) (hz : xs.length ≤ 100000)
    (hw : ∀ x, wipe ((wipe σ vs).set j (some x)) vs = wipe σ vs)
    (ht : ∀ (i : Nat) (x : V) (H3 : Hp), xs[i]? = some x → Same H H3 → ∀ Q' : Bool → Hp → Prop, (∀ H4, Same H3 H4 → Q' (f x) H4) → tt ((wipe σ vs).set j (some x)) H3 Q')
    (he : ∀ (i : Nat) (x : V) (H3 : Hp), xs[i]? = some x → Same H H3 → ∀ Q' : VK, Q' x H3 → te ((wipe σ vs).set j (some x)) H3 Q')
    (hq : ∀ D H', H D = none → Same H H' → H' D = some (.lst (xs.filter f)) → Q (.ref D) H') : tLc (iTup K tl) (gName j) tt te vs σ H Q := by
  refine hx _ ⟨a, rfl, ⟨xs, hs⟩, fun D hD => ?_⟩
  refine lc_tup (xs := xs) (Kept H xs f D) ⟨hD, same_new hD, upd_same⟩ (fun i H' _ m => same_sqT m.same hs) (fun i x H' hi m => ⟨hw x, ?_⟩) (fun H' m => hq D H' m.new m.same (by have := m.held; rwa [List.take_length] at this))
  have hl := (List.getElem?_eq_some_iff.mp hi).1
  have e1 : xs.take (i + 1) = xs.take i ++ [x] := by
    obtain ⟨_, rfl⟩ := List.getElem?_eq_some_iff.mp hi
    exact List.take_succ_eq_append_getElem hl
  refine ht i x H' hi m.same _ fun H4 s4 => ?_
  cases hf : f x with
  | true =>
    rw [if_pos rfl]
    refine he i x H4 hi (m.same.trans s4) _ ⟨_, s4 _ _ m.held, ?_, m.new, same_own (m.same.trans s4) m.new, ?_⟩
    · have := List.length_filter_le f (xs.take i)
      rw [List.length_take] at this
      exact Nat.lt_of_lt_of_le (by omega : _ < 100001) (by decide)
    · rw [upd_same, e1, List.filter_append, List.filter_cons, if_pos hf]
      rfl
  | false =>
    rw [if_neg
          Bool.false_ne_true]
    refine ⟨m.new, m.same.trans s4, ?_⟩
    rw [e1, List.filter_append, List.filter_cons, if_neg (by rw [hf]; decide)]
    show _ = some (HO.lst (_ ++ []))
    rw [List.append_nil]
    exact s4 _ _ m.held
end Ur
namespace Ur
open PySem L2
section
variable {te : TE} {vs : List Nat} {j : Nat} {σ : L2.St} {Q : VK}
/-- [elt for x in range(n)], n drawn -/
theorem lcRn {ta : TA} {H0 : Hp} (Pn : Int → Prop) (Pe : Int → Nat → V → Prop) (hx : ∀ R : List V → Hp → Prop, (∀ n H1, Pn n → Same H0 H1 → R [.int n] H1) → ta σ H0 R) (hb : ∀ n, Pn n → 0 ≤ n ∧ n ≤ 100000)
    (hw : ∀ x, wipe ((wipe σ vs).set j (some x)) vs = wipe σ vs)
    (he : ∀ (n : Int) (i : Nat) (H3 : Hp), Pn n → i < n → Same H0 H3 → ∀ Q' : VK, (∀ y H4, Pe n i y → Same H3 H4 → Q' y H4) → te ((wipe σ vs).set j (some (.int (0 + (i : Int))))) H3 Q')
    (hq : ∀ n D ys H', Pn n → H0 D = none → Same H0 H' → H' D = some (.lst ys) → (ys.length : Int) = n → (∀ i y, ys[i]? = some y → Pe n i y) → Q (.ref D) H') : tLc (iRng1 ta) (gName j) tYes te vs σ H0 Q := by
  refine hx _ fun n H1 pn s1 => ⟨n, rfl, by have := hb n pn; omega, by have := hb n pn; omega, fun D hD => ?_⟩
  have hn := hb n pn
  refine lc_range (lo := 0) (n := n.toNat) (Made H1 (Pe n) D) (.start hD) (fun i H' hi m => ⟨hw _, ?_⟩) (fun H' ⟨hn, sm, ys, h1, h2, h3⟩ => hq n D ys H' pn (s1.free hn) (s1.trans sm) h1 (by omega) h3)
  unfold tYes
  dsimp only
  rw [if_pos rfl]
  exact m.turn (by omega) (he n i H' pn (by omega) (s1.trans m.same))
end
end Ur
namespace Ur
open PySem L2
/-- the def of this name keeps this promise where no repr runs around it -/
def HasG (P : Program) (w : World) (K : PySem.W.Frag) (mg : Str → Option Value) (base : Heap) (x : Str) (ps : List Str) (k : Nat) (sp : Sp) : Prop :=
  ∃ f fd, FnG P w K mg base CX0 k f fd ps sp ∧ mg x = some (.ref f) ∧ PySem.W.keepIn K (.ref f) = true ∧ Binds K fd ps []
def HasK (P : Program) (w : World) (K : PySem.W.Frag) (mg : Str → Option Value) (base : Heap) (x : Str) (ps : List Str) (k : Nat) (sp : Sp) : Prop :=
  ∃ f fd, FnOk P w K mg base CX0 k f fd ps sp ∧ mg x = some (.ref f) ∧ PySem.W.keepIn K (.ref f) = true ∧ KwAll K fd ps
theorem pe_hasG {X : Cx} {x : Str} {p pos : Pos} {e : Expr} {es : List Expr} {t : TA} {ps : List Str} {k : Nat} {sp : Sp} (h : HasG X.prog X.w X.K X.mg X.base x ps k sp) (hgu : X.A.guards = some []) (hr : Room k X.A) (hg : Gl X x)
    (ha : PA X (e :: es) t) (hdb : (x == ("__debug__" : Str)) = false := by decide) (he : starEach (e :: es) X.env = (false, eval e X.env) :: starEach es X.env := by rfl)
    (hpl : (backTo pos (starEach es X.env)).any (·.1) = false := by rfl) : PE X (.Call (.Name x p) (e :: es) [] pos) (tCall sp [] E0 t) := by
  obtain ⟨f, fd, G, m, kp, b⟩ := h
  exact callG G hgu hr hg m kp b pass0 ha hdb he hpl
def FndK (K : PySem.W.Frag) (mg : Str → Option Value) (x : Str) (st : Stmt) (ps : List Str) : Prop :=
  ∃ f fd, Fun K x x st f fd ∧ mg x = some (.ref f) ∧ Binds K fd ps [] ∧ KwAll K fd ps
section
variable {P : Program} {w : World} {K : PySem.W.Frag} {mg : Str → Option Value} {base : Heap} {x : Str} {st : Stmt} {ps : List Str} {k : Nat} {sp : Sp}
theorem Fnd.has (D : Fnd K mg x st ps) (h : ∀ {f fd}, Fun K x x st f fd → FnOk P w K mg base CX0 k f fd ps sp) : Has P w K mg base x ps k sp := by
  obtain ⟨f, fd, F, m, b⟩ := D
  exact ⟨f, fd, h F, m, F.kp, b⟩
theorem Fnd.hasG (D : Fnd K mg x st ps) (h : ∀ {f fd}, Fun K x x st f fd → FnG P w K mg base CX0 k f fd ps sp) : HasG P w K mg base x ps k sp := by
  obtain ⟨f, fd, F, m, b⟩ := D
  exact ⟨f, fd, h F, m, F.kp, b⟩
theorem FndK.fnd (D : FndK K mg x st ps) : Fnd K mg x st ps := by
  obtain ⟨f, fd, F, m, b, _⟩ := D
  exact ⟨f, fd, F, m, b⟩
theorem FndK.hasK (D : FndK K mg x st ps) (h : ∀ {f fd}, Fun K x x st f fd → FnOk P w K mg base CX0 k f fd ps sp) : HasK P w K mg base x ps k sp := by
  obtain ⟨f, fd, F, m, _, b⟩ := D
  exact ⟨f, fd, h F, m, F.kp, b⟩
end
section
variable {K : PySem.W.Frag} {h : Heap} {mg : Str → Option Value} {x : Str} {st : Stmt} {ps : List Str} {f : Addr} {oc kV dc pm cd ct : Value} {od an : Option Addr} {sl : Array (Option Value)}
theorem fnd_mk (X : K.In h) (G : h.Ns mainGlobals mg) (a : PySem.W.nsIn K mainGlobals x = some (some (.ref f))) (l : K.lookup f = some ⟨oc, od, .func (PySem.W.fnOf x x (defArgs st) (defBody st) (defScope st) .none kV dc pm an cd ct), sl⟩)
    (c : PySem.W.codeIn K cd x = true) (k : PySem.W.keepIn K (.ref f) = true)
    (hb : ∀ (kV doc pm : Value) (an : Option Addr) (cdv ct : Value) (us : List Value), us.length = ps.length → bindArgs (PySem.W.fnOf x x (defArgs st) (defBody st) (defScope st) .none kV doc pm an cdv ct) ⟨us, []⟩ = pure (ps.zip us)) : Fnd K mg x st ps :=
  have F := fun_mk l c k
  ⟨f, _, F, PySem.W.mg_of X G a, F.binds hb⟩
theorem fndK_mk (X : K.In h) (G : h.Ns mainGlobals mg) (a : PySem.W.nsIn K mainGlobals x = some (some (.ref f))) (l : K.lookup f = some ⟨oc, od, .func (PySem.W.fnOf x x (defArgs st) (defBody st) (defScope st) .none kV dc pm an cd ct), sl⟩)
    (c : PySem.W.codeIn K cd x = true) (k : PySem.W.keepIn K (.ref f) = true)
    (hb : ∀ (kV doc pm : Value) (an : Option Addr) (cdv ct : Value) (us : List Value), us.length = ps.length → bindArgs (PySem.W.fnOf x x (defArgs st) (defBody st) (defScope st) .none kV doc pm an cdv ct) ⟨us, []⟩ = pure (ps.zip us))
    (hk : ∀ (kV doc pm : Value) (an : Option Addr) (cdv ct : Value) (us ws : List Value), (us ++ ws).length = ps.length → bindArgs (PySem.W.fnOf x x (defArgs st) (defBody st) (defScope st) .none kV doc pm an cdv ct) ⟨us, ps.zip ws⟩ = pure (ps.zip (us ++ ws))) : FndK K mg x st ps :=
  have F := fun_mk l c k
  ⟨f, _, F, PySem.W.mg_of X G a, F.binds hb, ⟨fun _ us ws _ hl => .of_eq (hk _ _ _ _ _ _ us ws hl), fun a b => a.append b⟩⟩
end
end Ur
namespace Ur
theorem one_split {α : Type} {us ws : List α} (h : (us ++ ws).length = 1) : (∃ v, us = [] ∧ ws = [v]) ∨ ∃ v, us = [v] ∧ ws = [] := by
  match us, ws, h with
  | [], [v], _ => exact Or.inl ⟨v, rfl, rfl⟩
  | [v], [], _ => exact Or.inr ⟨v, rfl, rfl⟩
  | [], _ :: _ :: _, h => exact absurd h (by simp)
  | [_], _ :: _, h => exact absurd h (by simp)
  | _ :: _ :: _, _, h => exact absurd h (by simp)
end Ur

namespace K2
open PySem L2 Ur
def top (i : Nat) : Stmt := PySem.Challenge.pw_hullrests_k02_fractions_points_direction.main.body.getD i (.Pass ⟨0, 0, 0, 0⟩)
abbrev sUrn : Stmt := top 14
abbrev sPull : Stmt := top 15
abbrev sAny : Stmt := top 16
abbrev sNum : Stmt := top 17
abbrev sLaps : Stmt := top 18
/-- what the top leaves of the built-in names -/
structure Bl (mg : Str → Option Value) : Prop where
  int : mg "int" = none
  abs : mg "abs" = none
  len : mg "len" = none
  max : mg "max" = none
  min : mg "min" = none
  divmod : mg "divmod" = none
  range : mg "range" = none
  tuple : mg "tuple" = none
  isinstance : mg "isinstance" = none
  bool : mg "bool" = none
  all : mg "all" = none
  repr : mg "repr" = none
section
variable {P : Program} {w : World} {K :
      PySem.W.Frag} {mg : Str → Option Value} {base : Heap}
def spPull : Sp := fun vs H Q _ => ∃ (u : Addr) (m : Int), vs = [.ref u, .int m] ∧ H u = some (UrnO u) ∧ 0 < m ∧ m < 1073741824 ∧ ∀ (r : Int) (H' : Hp), 0 ≤ r → r < m → Same H H' → Q (.int r) H'
abbrev nPull : List Str := ["_law_urn_here", "_law_many", "_law_digit"]
theorem scPull : FnScope nPull ["_law_urn_here", "_law_many"] (defScope sPull) := ⟨rfl, rfl, rfl, by decide +kernel, rfl, by decide +kernel, by decide +kernel⟩
theorem ok_pull {f : Addr} {fd : FuncData} (F : Fun K "_law_pull" "_law_pull" sPull f fd) (T : Bl mg) : FnOk P w K mg base CX0 1 f fd ["_law_urn_here", "_law_many"] spPull := by
  refine F.ok scPull (fun vs H Q E h => ?_) (fun cdv A outer s H vs Q E hr h => ?_)
  · obtain ⟨u, m, rfl, _⟩ := h
    rfl
  · obtain ⟨u, m, rfl, hu, m0, m1, k⟩ := h
    refine ⟨_, pss_urn (pss_cons (ps_if (pt_cmpR op_gt (pe_ix ix_list (pv 0) pe_int (fun _ _ => rfl)) pe_int (nomark _))
        (pss_cons (ps_asg (pe_callB call_divmod (by rfl) T.divmod PyProof.Rows.boot_divmod (pa_cons (pe_ix ix_list (pv 0) pe_int (fun _ _ => rfl)) (pa_cons (pv 1) pa_nil)))
            (pg_tup rfl (pgs_cons (pg_sub (pv 0) pe_int set_list (fun _ => rfl)) (pgs_cons (pg_name (i := 2) scPull.nd rfl (Or.inl rfl)) pgs_nil))))
          (pss_one (ps_ret (pv 2)))) pss_nil)
      (pss_cons (ps_asg (pe_op op_mod (pe_callTy call_int1 (by rfl) T.int PyProof.Rows.boot_int (pa_cons (pe_op op_add (pe_op op_mul (pe_ix ix_list (pv 0) pe_int (fun _ _ => rfl)) pe_int) pe_int) pa_nil)) pe_int) (pg_sub (pv 0) pe_int set_list (fun _ => rfl)))
      (pss_cons (ps_asg (pe_op op_mod (pe_callTy call_int1 (by rfl) T.int PyProof.Rows.boot_int (pa_cons (pe_op op_add (pe_op op_mul (pe_ix ix_list (pv 0) pe_int (fun _ _ => rfl)) pe_int) (pe_ix ix_list (pv 0) pe_int (fun _ _ => rfl))) pa_nil)) pe_int) (pg_sub (pv 0) pe_int set_list (fun _ => rfl)))
      (pss_one (ps_ret (pe_op op_mod (pe_callTy call_int1 (by rfl) T.int PyProof.Rows.boot_int (pa_cons (pe_op op_fdiv (pe_ix ix_list (pv 0) pe_int (fun _ _ => rfl)) pe_int) pa_nil)) (pv 1))))))), ?_⟩
    refine ⟨u, hu, fun a b c B => ?_⟩
    have hq : ∀ (H' : Hp) (r : Int) (a' b' c' : Int), 0 ≤ r → r < m → Bd a' b' c' → (∀ x o, H x = some o → x ≠ u → H' x = some o) → H' u = some (.lst (nums a' b' c')) → Shut u (Q (.int r)) H' := by
      intro H' r a' b' c' r0 r1 B' keep at'
      refine ⟨a', b', c', B', at', k r _ r0 r1 ?_⟩
      intro x o e
      by_cases z : x = u
      · subst z; rw [hu] at e; cases e; exact upd_same
      · rw [upd_ne z]; exact keep x o e z
    have keep0 : ∀ xs x o, H x = some o → x ≠ u → (upd H u (.lst xs)) x = some o := fun xs x o e z => by rw [upd_ne z]; exact e
    refine ⟨_, rfl, u, nums a b c, 0, _, rfl, rfl, SqL.of upd_same, rfl, _, _, rfl, rfl, _, rfl, ?_⟩
    refine ite2 (fun _
          => ?_) (fun _ => ?_)
    · refine ⟨_, rfl, u, nums a b c, 0, _, rfl, rfl, SqL.of upd_same, rfl, _, rfl, a, m, rfl, ⟨m0, m1⟩, fun p hp => ?_⟩
      have npu : p ≠ u := fun z => by rw [z, upd_same] at hp; cases hp
      have npu2 : u ≠ p := fun z => npu z.symm
      refine ⟨p, _, rfl, SqT.of upd_same, rfl, _, _, rfl, ?_⟩
      refine ⟨_, rfl, u, nums a b c, 0, 0, rfl, rfl, by rw [upd_ne npu2, upd_same], rfl, ?_⟩
      refine ⟨_, _, rfl, rfl, ?_⟩
      refine ⟨_, rfl, ?_⟩
      refine hq _ (a % m) (a / m) b c (Int.emod_nonneg _ (by omega)) (Int.emod_lt_of_pos _ m0) ⟨Int.ediv_nonneg B.a0 (by omega), B.b0, B.b1, B.c0, B.c1⟩ (fun x o e z => ?_) upd_same
      rw [upd_ne z, upd_ne (ne_of_none (upd_ne z ▸ e : (upd H u _) x = some o) hp), upd_ne z]
      exact e
    · have b2 := B.b1
      have b3 := B.b0
      have c2 := B.c1
      have c3 := B.c0
      refine ⟨_, rfl, u, nums a b c, 1, _, rfl, rfl, SqL.of upd_same, rfl, _, _, rfl, rfl, Or.inl ⟨by omega, by omega⟩, _, _, rfl, rfl, Or.inl ⟨_, rfl, _, _, rfl, rfl, (by show (0 : Int) < 2147483629; decide), ?_⟩⟩
      refine ⟨_, rfl, u, nums a b c, 1, 1, rfl, rfl, upd_same, rfl, ?_⟩
      rw [upd_upd]
      refine ⟨_, rfl, u, nums a ((b * 37199 + 1201) % 2147483629) c, 2, _, rfl, rfl, SqL.of upd_same, rfl, _, _, rfl, rfl, Or.inl ⟨by omega, by omega⟩, _, rfl, u, nums a ((b * 37199 + 1201) % 2147483629) c, 1, _, rfl, rfl, SqL.of upd_same, rfl, _, _, rfl, rfl, Or.inl ⟨_, rfl, _, _, rfl, rfl, (by show (0 : Int) < 2147483587; decide), ?_⟩⟩
      refine ⟨_, rfl, u, nums a ((b * 37199 + 1201) % 2147483629) c, 2, 2, rfl, rfl, upd_same, rfl, ?_⟩
      rw [upd_upd]
      obtain ⟨b', hb'⟩ : ∃ b', b' = (b * 37199 + 1201) % 2147483629 := ⟨_, rfl⟩
      obtain ⟨c', hc'⟩ : ∃ c', c' = (c * 29443 + b') % 2147483587 := ⟨_, rfl⟩
      have b4 : 0 ≤ b' ∧ b' < 2147483629 := ⟨hb' ▸ Int.emod_nonneg _ (by decide), hb' ▸ Int.emod_lt_of_pos _ (by decide)⟩
      have c4 : 0 ≤ c' ∧ c' < 2147483587 := ⟨hc' ▸ Int.emod_nonneg _ (by decide), hc' ▸ Int.emod_lt_of_pos _ (by decide)⟩
      generalize hH : upd H u _ = H2
      have hu2 : H2 u = some (.lst (nums a b' c')) := by
        rw [← hH, upd_same, hc', hb']
        rfl
      have kp2 : ∀ x o, H x = some o → x ≠ u → H2 x = some o := fun x o e z => by
        rw [← hH, upd_ne z]
        exact e
      refine ⟨_, rfl, u, nums a b' c', 2, _, rfl, rfl, SqL.of hu2, rfl, _, _, rfl, rfl, ⟨by decide, by decide⟩, Or.inl ⟨_, rfl, _, rfl, _, _, rfl, rfl, m0, ?_⟩⟩
      exact hq _ _ a b' c' (Int.emod_nonneg _ (by omega)) (Int.emod_lt_of_pos _ m0) ⟨B.a0, b4.1, by omega, c4.1, by omega⟩ kp2 hu2
end
end K2

namespace K2
open PySem L2 Ur
theorem same_new {H : Hp} {p : Addr} {o : HO} (h : H p = none) : Same H (upd H p o) := fun a u e => by
  rw [upd_ne (ne_of_none e h)]
  exact e
theorem map_at {ns : List Int} {i : Nat} {x : V} (h : (ns.map V.int)[i]? = some x) : ∃ z, ns[i]? = some z ∧ x = V.int z := by
  rw [List.getElem?_map] at h
  cases e : ns[i]? with
  | none => rw [e]
        at h; cases h
  | some z => rw [e] at h; exact ⟨z, rfl, (Option.some.inj h).symm⟩
section
variable {P : Program} {w : World} {K :
      PySem.W.Frag} {mg : Str → Option Value} {base : Heap}
abbrev n_law_urn : List Str := ["_law_script", "_law_lap", "_law_seed", "_law_cell", "_law_own"]
abbrev p_law_urn : List Str := ["_law_script", "_law_lap"]
theorem sc_law_urn : FnScope n_law_urn p_law_urn (defScope sUrn) := ⟨rfl, rfl, rfl, by decide +kernel, rfl, by decide +kernel, by decide +kernel⟩
def spUrn (K : PySem.W.Frag) : Sp := fun vs H Q _ => ∃ (a : Addr) (ns : List Int) (lap : Int), vs = [.ref a, .int lap] ∧ SqL K H a (ns.map V.int) ∧ 0 ≤ lap ∧ lap ≤ 10 ∧
  ∀ (p : Addr) (x y z : Int) (H' : Hp), H p = none → Same H H' → Bd x y z → H' p = some (.lst (nums x y z)) → Q (.ref p) H'
theorem ok_urn {f : Addr} {fd : FuncData} (F : Fun K "_law_urn" "_law_urn" sUrn f fd) (T : Bl mg) : FnOk P w K mg base CX0 1 f fd p_law_urn (spUrn K) := by
  refine F.ok sc_law_urn (fun vs H Q E h => ?_) (fun cdv A outer s H vs Q E hr h => ?_)
  · obtain ⟨a, ns, lap, rfl, _⟩ := h
    rfl
  · obtain ⟨a, ns, lap, rfl, hS, l0, l1, k⟩ := h
    refine ⟨_, (pss_cons (ps_set (i := 2) sc_law_urn.nd rfl (Or.inl rfl) (pe_op op_add pe_int (pe_op op_mul pe_int (pv 1))))
      (pss_cons (ps_for PassesOwn.never rfl (pi_list (pe_slice sl_list (pv 0) po_none (po_some pe_int))) (pg_name (i := 3) sc_law_urn.nd rfl (Or.inl rfl)) (pss_one (ps_set (i := 2) sc_law_urn.nd rfl (Or.inl rfl) (pe_op op_mod (pe_callTy call_int1 (by rfl) T.int PyProof.Rows.boot_int (pa_cons (pe_op op_add (pe_op op_add (pe_op op_mul (pv 2) pe_int) (pe_op op_mod (pe_callTy call_int1 (by rfl) T.int PyProof.Rows.boot_int (pa_cons (pv 3) pa_nil)) pe_int)) pe_int) pa_nil)) pe_int))))
      (pss_cons (ps_set (i := 4) sc_law_urn.nd rfl (Or.inl rfl) (pe_ifExp (pt_cmpR op_lt (pv 1) (pe_callB call_len_seq (by rfl) T.len PySem.boot_len (pa_cons (pv 0) pa_nil)) (nomark _)) (pe_callB call_abs (by rfl) T.abs PyProof.Rows.boot_abs (pa_cons (pe_callTy call_int1 (by rfl) T.int PyProof.Rows.boot_int (pa_cons (pe_ix ix_list (pv 0) (pv 1) (fun _ _ => rfl)) pa_nil)) pa_nil)) pe_int))
      (pss_one (ps_ret (pe_lst (pa_cons (pe_ifExp (pt_cmpR op_ge (pv 4) (pe_op op_pow pe_int pe_int) (nomark _)) (pv 4) pe_int) (pa_cons (pe_op op_mod (pe_callTy call_int1 (by rfl) T.int PyProof.Rows.boot_int (pa_cons (pe_op op_add (pe_op op_add (pe_op op_mul (pv 2) pe_int) (pe_op op_mod (pe_callTy call_int1 (by rfl) T.int PyProof.Rows.boot_int (pa_cons (pv 4) pa_nil)) pe_int)) pe_int) pa_nil)) pe_int) (pa_cons (pe_op op_add (pv 2) pe_int) pa_nil))))))))), ?_⟩
    refine ⟨_, rfl, _, _, rfl, rfl, Or.inl ⟨by decide, by decide⟩, _, _, rfl, rfl, ?_⟩
    refine ⟨_, rfl, 63, rfl, a, ns.map V.int, rfl, hS, fun p hp => ⟨p, rfl, ⟨_, SqL.of upd_same⟩, ?_⟩⟩
    obtain ⟨ms, ec⟩ : ∃ ms : List Int, cutV (ns.map V.int) none (some 63) = ms.map V.int := ⟨(ns.drop _).take _, by unfold cutV; rw [List.map_take, List.map_drop]⟩
    rw [ec]
    refine for_list (K := K) (a := p) (xs := ms.map V.int) (fun i σ H' => ∃ (sd : Int) (v : Option V), σ = [some (.ref a), some (.int lap), some (.int sd), v, none] ∧ 0 ≤ sd ∧ sd < 2147483549 ∧ Same H H' ∧ SqL K H' p (ms.map V.int))
      ⟨60427 + 7001 * lap, none, rfl, by omega, by omega, same_new hp, SqL.of upd_same⟩ (fun i σ H' _ ⟨_, _, _, _, _, _, z⟩ => z) ?_ ?_
    · rintro i y σ H' hi ⟨sd, v, rfl, s0, s1, sm, sq⟩
      obtain ⟨z, _, rfl⟩ := map_at hi
      refine ⟨_, rfl, _, _, rfl, rfl, Or.inl ⟨by omega, by omega⟩, _, rfl, Or.inl ⟨_, rfl, _, _, rfl, rfl, (by show (0 : Int) < 2147483549; decide), _, _, rfl, rfl, _, _, rfl, rfl, Or.inl ⟨_, rfl, _, _, rfl, rfl, (by show (0 : Int) < 2147483549; decide), ?_⟩⟩⟩
      exact ⟨_, _, rfl, Int.emod_nonneg _ (by decide), Int.emod_lt_of_pos _ (by decide), sm, sq⟩
    · rintro σ H' ⟨sd, v, rfl, s0, s1, sm, sq⟩
      have hS' := sm.seq hS
      obtain ⟨j, rfl⟩ := Int.eq_ofNat_of_zero_le l0
      refine ⟨_, rfl, _, rfl, a, _, rfl, Or.inl hS', _, _, rfl, rfl, _, rfl, ?_⟩
      have own0 : ∀ z : Int, 0 ≤ (if z < 0 then -z else z) := fun z => by split <;> omega
      have md : ∀ y : Int, 0 ≤ y % 2147483563 ∧ y % 2147483563 < 2147483563 := fun y => ⟨Int.emod_nonneg _ (by decide), Int.emod_lt_of_pos _ (by decide)⟩
      refine ite2 (fun c
            => ?_) (fun c => ?_)
      · have hj : j < ns.length := by
          have := of_decide_eq_true c
          rw [List.length_map] at this
          omega
        have hat : (ns.map V.int)[j]? = some (V.int ns[j]) := by simp [hj]
        refine ⟨_, rfl, _, rfl, a, _, _, _, rfl, rfl, hS', atI_nat hat, Or.inl ⟨_, rfl, _, rfl, ?_⟩⟩
        refine ⟨_, rfl, _, _, rfl, rfl, ⟨by decide, by decide, by decide⟩, _, _, rfl, rfl, _, rfl, ?_⟩
        generalize ho : (if ns[j] < 0 then -ns[j] else ns[j]) = own
        have o0 : 0 ≤ own := ho ▸ own0 _
        refine ite2 (fun _
              => ?_) (fun _ => ?_)
        · refine ⟨_, rfl, _, rfl, _, _, rfl, rfl, Or.inr ⟨by decide, by decide⟩, _, rfl, Or.inl ⟨_, rfl, _, _, rfl, rfl, (by show (0 : Int) < 2147483563; decide), _, _, rfl, rfl, _, _, rfl, rfl, Or.inl ⟨_, rfl, _, _, rfl, rfl, (by show (0 : Int) < 2147483563; decide), _, rfl, _, _, rfl, rfl, (by show 3 ≤ sizeLine; decide), fun q hq => ?_⟩⟩⟩
          exact k q own _ _ _ (sm.free hq) (sm.trans (same_new hq)) ⟨o0, (md _).1, by have := (md (sd * 41203 + own % 2147483563 + 5)).2; omega, by omega, by omega⟩ upd_same
        · refine ⟨_, rfl, _, _, rfl, rfl, Or.inr ⟨by decide, by decide⟩, _, rfl, Or.inl ⟨_, rfl, _, _, rfl, rfl, (by show (0 : Int) < 2147483563; decide), _, _, rfl, rfl, _, _, rfl, rfl, Or.inl ⟨_, rfl, _, _, rfl, rfl, (by show (0 : Int) < 2147483563; decide), _, rfl, _, _, rfl, rfl, (by show 3 ≤ sizeLine; decide), fun q hq => ?_⟩⟩⟩
          exact k q 0 _ _ _ (sm.free hq) (sm.trans (same_new hq)) ⟨by decide, (md _).1, by have := (md (sd * 41203 + own % 2147483563 + 5)).2; omega, by omega, by omega⟩ upd_same
      · refine ⟨_, rfl, _, _, rfl, rfl, ⟨by decide, by decide, by decide⟩, _, _, rfl, rfl, _, rfl, ?_⟩
        refine ite2 (fun _
              => ?_) (fun _ => ?_)
        · refine ⟨_, rfl, _, rfl, _, _, rfl, rfl, Or.inr ⟨by decide, by decide⟩, _, rfl, Or.inl ⟨_, rfl, _, _, rfl, rfl, (by show (0 : Int) < 2147483563; decide), _, _, rfl, rfl, _, _, rfl, rfl, Or.inl ⟨_, rfl, _, _, rfl, rfl, (by show (0 : Int) < 2147483563; decide), _, rfl, _, _, rfl, rfl, (by show 3 ≤ sizeLine; decide), fun q hq => ?_⟩⟩⟩
          exact k q 0 _ _ _ (sm.free hq) (sm.trans (same_new hq)) ⟨by decide, (md _).1, by have := (md (sd * 41203 + 0 % 2147483563 + 5)).2; omega, by omega, by omega⟩ upd_same
        · refine ⟨_, rfl, _, _, rfl, rfl, Or.inr ⟨by decide, by decide⟩, _, rfl, Or.inl ⟨_, rfl, _, _, rfl, rfl, (by show (0 : Int) < 2147483563; decide), _, _, rfl, rfl, _, _, rfl, rfl, Or.inl ⟨_, rfl, _, _, rfl, rfl, (by show (0 : Int) < 2147483563; decide), _, rfl, _, _, rfl, rfl, (by show 3 ≤ sizeLine; decide), fun q hq => ?_⟩⟩⟩
          exact k q 0 _ _ _ (sm.free hq) (sm.trans (same_new hq)) ⟨by decide, (md _).1, by have := (md (sd * 41203 + 0 % 2147483563 + 5)).2; omega, by omega, by omega⟩ upd_same
end
end K2

namespace Ur
open PySem L2
/-! ### Euclid, by halves -/
theorem gcd_turn {x y B i : Nat} (hy : 0 < y) (hxy : y < x) (h : x * y * 2 ^ i ≤ B) : y * (x % y) * 2 ^ (i + 1) ≤ B := by
  have h1 : 2 * (x % y) ≤ x := by
    have a := Nat.mod_lt x hy
    have b := Nat.mod_add_div x y
    have c : 1 ≤ x / y := (Nat.one_le_div_iff hy).mpr (Nat.le_of_lt hxy)
    have d : y * 1 ≤ y * (x / y) := Nat.mul_le_mul_left _ c
    omega
  have h2 : y * (x % y) * 2 ^ (i + 1) = y * (2 * (x % y)) * 2 ^ i := by
    rw [Nat.pow_succ, Nat.mul_comm (2 ^ i) 2, ← Nat.mul_assoc, Nat.mul_assoc y (x % y) 2, Nat.mul_comm (x % y) 2]
  rw [h2]
  refine Nat.le_trans (Nat.mul_le_mul_right _ (Nat.mul_le_mul_left _ h1)) ?_
  rw [Nat.mul_comm y x]
  exact h
theorem gcd_ends {x y B i : Nat} (hxy : y < x) (h : x * y * 2 ^ i ≤ B) (hB : B < 2 ^ i) : y = 0 := by
  cases y with
  | zero => rfl
  | succ y =>
    have : 1 * 2 ^ i ≤ x * (y + 1) * 2 ^ i := Nat.mul_le_mul_right _ (Nat.mul_pos (by omega) (by omega))
    omega
end Ur
namespace K2
open PySem L2 Ur
abbrev sGcd : Stmt := top 19
abbrev sThin : Stmt := top 20
section
variable {P : Program} {w : World} {K :
      PySem.W.Frag} {mg : Str → Option Value} {base : Heap}
abbrev n_law_gcd : List Str := ["_law_one", "_law_two", "_law_step"]
abbrev p_law_gcd : List Str := ["_law_one", "_law_two"]
theorem sc_law_gcd : FnScope n_law_gcd p_law_gcd (defScope sGcd) := ⟨rfl, rfl, rfl, by decide +kernel, rfl, by decide +kernel, by decide +kernel⟩
def spGcd : Sp := fun vs H Q _ => ∃ a b : Nat, vs = [.int a, .int b] ∧ b < 2 ^ 9000 ∧ Q (.int ((Nat.gcd a b : Nat) : Int)) H
theorem ok_gcd {f : Addr} {fd : FuncData} (F : Fun K "_law_gcd" "_law_gcd" sGcd f fd) (T : Bl mg) : FnOk P w K mg base CX0 1 f fd p_law_gcd spGcd := by
  refine F.ok sc_law_gcd (fun vs H Q E h => ?_) (fun cdv A outer s H vs Q E hr h => ?_)
  · obtain ⟨a, b, rfl, _⟩ := h
    rfl
  · obtain ⟨a, b, rfl, hb, k⟩ := h
    refine ⟨_, (pss_cons (ps_for PassesOwn.never rfl (pi_range1 (by rfl) T.range (pa_cons pe_int pa_nil)) (pg_name (i := 2) sc_law_gcd.nd rfl (Or.inl rfl)) (pss_cons (ps_if (pt_cmpR op_eq (pv 1) pe_int (nomark _)) (pss_one ps_break) pss_nil)
      (pss_one (ps_par (i := 0) (j := 1) rfl sc_law_gcd.nd rfl rfl (by decide) rfl rfl (pa_cons (pv 1) (pa_cons (pe_op op_mod (pe_callTy call_int1 (by rfl) T.int PyProof.Rows.boot_int (pa_cons (pv 0) pa_nil)) (pv 1)) pa_nil)) (by rfl)))))
      (pss_one (ps_ret (pv 0)))), ?_⟩
    have hB : b * b < 2 ^ 19998 := by
      have h1 : b * b < 2 ^ 9000 * 2 ^ 9000 := Nat.mul_lt_mul'' hb hb
      rw [← Nat.pow_add] at h1
      exact Nat.lt_of_lt_of_le h1 (Nat.pow_le_pow_right (by decide) (by decide))
    refine ⟨20000, rfl, by decide, by decide, for_range (lo := 0) (n := 20000) (fun i σ H' => ∃ (x y : Nat) (v : Option V), σ = [some (.int x), some (.int y), v] ∧ H' = H ∧ Nat.gcd x y = Nat.gcd a b ∧
      (i = 0 → x = a ∧ y = b) ∧ (0 < i → y < x ∧ x * y * 2 ^ (i - 1) ≤ b * b)) ⟨a, b, none, rfl, rfl, rfl, fun _ => ⟨rfl, rfl⟩, fun z => absurd z (by decide)⟩ ?_ ?_⟩
    · rintro i σ H' hi ⟨x, y, v, rfl, rfl, hg, h0, h1⟩
      refine ⟨_, rfl,
            rfl, _, rfl, ?_⟩
      refine ite2 (fun c
            => ?_) (fun c => ?_)
      · have e : (y : Int) = 0 := V.int.inj (of_decide_eq_true c)
        have e' : y = 0 := by omega
        subst e'
        rw [Nat.gcd_zero_right] at hg
        refine ⟨_, rfl, ?_⟩
        rw [hg]
        exact k
      · have e : ¬ y = 0 := fun z => c (decide_eq_true (by rw [z]; rfl))
        have hy : 0 < y := Nat.pos_of_ne_zero e
        refine ⟨_, rfl, _, rfl, Or.inl ⟨_, rfl, _, rfl, _, _, rfl, rfl, (by show (0 : Int) < (y : Int); omega), _, _, rfl, ?_⟩⟩
        refine ⟨y, x % y, some (.int (0 + (i : Int))), ?_, rfl, ?_, fun z => absurd z (by omega), fun _ => ⟨Nat.mod_lt _ hy, ?_⟩⟩
        · rw [Int.natCast_emod]
          rfl
        · rw [← hg, Nat.gcd_comm x y]
          exact (Nat.gcd_rec y x).symm ▸ Nat.gcd_comm _ _
        · cases i with
          | zero =>
            obtain ⟨rfl, rfl⟩ := h0 rfl
            have := Nat.mod_lt x hy
            show y * (x % y) * 2 ^ 0 ≤ y * y
            rw [Nat.pow_zero, Nat.mul_one]
            exact Nat.mul_le_mul_left _ (Nat.le_of_lt this)
          | succ i =>
            obtain ⟨h2, h3⟩ := h1 (by omega)
            exact gcd_turn hy h2 h3
    · rintro σ H' ⟨x, y, v, rfl, rfl, hg, h0, h1⟩
      obtain ⟨h2, h3⟩ := h1 (by decide)
      have e' : y = 0 := gcd_ends h2 h3 (Nat.lt_of_lt_of_le hB (Nat.pow_le_pow_right (by decide) (by decide)))
      subst e'
      rw [Nat.gcd_zero_right] at hg
      refine ⟨_, rfl, ?_⟩
      rw [hg]
      exact k
/-! ### thin -/
def gAll (ns : List Int) : Nat := ns.foldl (fun g n => Nat.gcd g n.natAbs) 0
def thin (ns : List Int) : List Int := if gAll ns < 2 then ns else ns.map fun n => n / (gAll ns : Int)
abbrev n_law_thin : List Str := ["_law_row", "_law_common", "_law_number"]
abbrev p_law_thin : List Str := ["_law_row"]
theorem sc_law_thin : FnScope n_law_thin p_law_thin (defScope sThin) := ⟨rfl, rfl, rfl, by decide +kernel, rfl, by decide +kernel, by decide +kernel⟩
def spThin (K : PySem.W.Frag) : Sp := fun vs H Q _ => ∃ (t : Addr) (ns : List Int), vs = [.ref t] ∧ SqT K H t (ns.map V.int) ∧ ns.length ≤ 1000 ∧ (∀ n ∈ ns, n.natAbs < 2 ^ 9000) ∧
  ∀ (p : Addr) (H' : Hp), Same H H' → SqT K H' p ((thin ns).map V.int) → Q (.ref p) H'
theorem take_next {α : Type} {l : List α} {i : Nat} {x : α}
      (h : l[i]? = some x) : l.take (i + 1) = l.take i ++ [x] := by
  obtain ⟨hi, rfl⟩ := List.getElem?_eq_some_iff.mp h
  exact List.take_succ_eq_append_getElem hi
theorem gAll_next {ns : List Int} {i : Nat} {z : Int} (h : ns[i]? = some z) : gAll (ns.take (i + 1)) = Nat.gcd (gAll (ns.take i)) z.natAbs := by
  unfold gAll
  rw [take_next h, List.foldl_append]
  rfl
theorem gAll_big : ∀ (ns : List Int) (g : Nat), g < 2 ^ 9000 → (∀ n ∈ ns, n.natAbs < 2 ^ 9000) → ns.foldl (fun g n => Nat.gcd g n.natAbs) g < 2 ^ 9000
  | [], g, h, _ => h
  | n :: r, g, h, hs => by
    refine gAll_big r _ ?_ fun m hm => hs m (List.mem_cons_of_mem _ hm)
    have hn := hs n List.mem_cons_self
    show Nat.gcd g n.natAbs < 2 ^ 9000
    by_cases z : g = 0
    · rw [z, Nat.gcd_zero_left]; exact hn
    · exact Nat.lt_of_le_of_lt (Nat.gcd_le_left _ (Nat.pos_of_ne_zero z)) h
theorem abs_nat (z : Int) : (if z < 0 then -z else z) = ((z.natAbs : Nat) : Int) := by
  split <;> omega
theorem big0 : 0 < 2 ^ 9000 := Nat.pow_pos (by decide)
theorem ok_thin {f : Addr} {fd : FuncData} (F : Fun K "_law_thin" "_law_thin" sThin f fd) (T : Bl mg) (H_law_gcd : Has P w K mg base "_law_gcd" p_law_gcd 1 spGcd) : FnOk P w K mg base CX0 2 f fd p_law_thin (spThin K) := by
  refine F.ok sc_law_thin (fun vs H Q E h => ?_) (fun cdv A outer s H vs Q E hr h => ?_)
  · obtain ⟨t, ns, rfl, _⟩ := h
    rfl
  · obtain ⟨t, ns, rfl, hS, hl, hb, k⟩ := h
    refine ⟨_, (pss_cons (ps_set (i := 1) sc_law_thin.nd rfl (Or.inr rfl) pe_int)
      (pss_cons (ps_for PassesOwn.never rfl (pi_tup (pv 0)) (pg_name (i := 2) sc_law_thin.nd rfl (Or.inl rfl)) (pss_one (ps_set (i := 1) sc_law_thin.nd rfl (Or.inr rfl) (pe_has H_law_gcd (hr.mono (by decide)) (by rfl) (pa_cons (pv 1) (pa_cons (pe_callB call_abs (by rfl) T.abs PyProof.Rows.boot_abs (pa_cons (pv 2) pa_nil)) pa_nil))))))
      (pss_one (ps_ret (pe_ifExp (pt_cmpR op_lt (pv 1) pe_int (nomark _)) (pe_callTy call_tuple_of (by rfl) T.tuple PyProof.Rows.boot_tuple (pa_cons (pv 0) pa_nil)) (pe_callTy call_tuple_of (by rfl) T.tuple PyProof.Rows.boot_tuple (pa_cons (pe_lc (own := [("_law_number", 2)]) (g := gName 2) (tt := tYes) rfl sc_law_thin.nd (pi_tup (pv 0)) (blkOk_by (N := n_law_thin) (sc := defScope sThin) (by decide +kernel)) (fun _ _ _ _ _ => pg_name (i := 2) sc_law_thin.nd rfl (Or.inl rfl)) (fun _ _ _ _ _ => pts_nil) (fun _ _ _ _ _ => (pe_op op_fdivW (pv 2) (pv 1)))) pa_nil))))))), ?_⟩
    refine ⟨_, rfl, t, rfl, ⟨_, hS⟩, for_tup (K := K) (a := t) (xs := ns.map V.int) (fun i σ H' => ∃ v : Option V, σ = [some (.ref t), some (.int (gAll (ns.take i) : Nat)), v] ∧ H' = H) ⟨none, rfl, rfl⟩ (fun i σ H' _ ⟨_, _, e⟩ => e ▸ hS) ?_ ?_⟩
    · rintro i y σ H' hi ⟨v, rfl, rfl⟩
      obtain ⟨z, hz, rfl⟩ := map_at hi
      have hzb := hb z (List.mem_of_getElem? hz)
      refine ⟨_, rfl, _, rfl, _, rfl, ?_⟩
      refine ⟨gAll (ns.take i), z.natAbs, by rw [← abs_nat]; rfl, hzb, ?_⟩
      refine ⟨some (V.int z), ?_, rfl⟩
      rw [gAll_next hz]
      rfl
    · rintro σ H' ⟨v, rfl, rfl⟩
      have eg : gAll (ns.take (ns.map V.int).length) = gAll ns := by rw [List.length_map, List.take_length]
      rw [eg]
      refine ⟨_, rfl, _, _,
            rfl, rfl, _, rfl, ?_⟩
      refine ite2 (fun c
            => ?_) (fun c => ?_)
      · have c' := of_decide_eq_true c
        refine ⟨_, rfl, t, _, rfl, Or.inr ⟨hS, ?_⟩⟩
        refine k t H' (Same.refl _) ?_
        unfold thin
        rw [if_pos (by omega)]
        exact hS
      · have c' : ¬ gAll ns < 2 := fun z => c (decide_eq_true (by omega))
        have gb : gAll ns < 2 ^ 9000 := gAll_big ns 0 big0 hb
        unfold tCB tCons tNil
        dsimp only
        refine lcT (K := K) (a := t) (xs := ns.map V.int) (fun i y => ∃ z, ns[i]? = some z ∧ y = .int (z / (gAll ns : Int))) (fun R r => ⟨_, rfl, r⟩) hS (by rw [List.length_map]; omega) (fun x => rfl) (fun i x H3 hi _ Q' q' => ?_) (fun D ys H2 hD sm hy e1 e2 => ?_)
        · obtain ⟨z, hz, rfl⟩ := map_at hi
          exact ⟨_, rfl, _, rfl, _, _, rfl, rfl, wide_div (b := 9000) (by omega) (by simpa using gb) (by decide) (by decide), q' _ _ ⟨z, hz, rfl⟩ (Same.refl _)⟩
        · refine ⟨D, ys, rfl, Or.inl ⟨SqL.of hy, fun l hl => ?_⟩⟩
          refine k l _ (sm.trans (same_new hl)) ?_
          have ey : ys = (thin ns).map V.int := by
            unfold thin
            rw [if_neg c']
            apply List.ext_getElem?
            intro i
            cases h : ys[i]? with
            | none =>
              have := List.getElem?_eq_none_iff.mp h
              rw [List.getElem?_eq_none (by simp at e1 ⊢; omega)]
            | some y =>
              obtain ⟨z, hz, rfl⟩ := e2 i y h
              simp [hz]
          rw [← ey]
          exact SqT.of upd_same
end
end K2

namespace K2
open PySem L2 Ur
abbrev sCom : Stmt := top 2
abbrev sWhole : Stmt := top 4
abbrev sWholes : Stmt := top 5
abbrev sFracF : Stmt := top 6
abbrev sPointF : Stmt := top 7
abbrev sDirF : Stmt := top 8
abbrev sIsFrac : Stmt := top 10
abbrev sIsPoint : Stmt := top 11
abbrev sIsDir : Stmt := top 12
abbrev sLWhole : Stmt := top 21
def isFr : List V → Bool
  | [.int n, .int m] => decide (0 < m) && decide (Nat.gcd n.natAbs m.natAbs = 1)
  | _ => false
def isPt : List V → Bool
  | [.int x, .int y, .int w] => decide (0 < w) && decide (Nat.gcd (Nat.gcd x.natAbs y.natAbs) w.natAbs = 1)
  | _ => false
def isDr : List V → Bool
  | [.int n, .int m] => decide (Nat.gcd n.natAbs m.natAbs = 1)
  | _ => false
theorem ns_len {n : Nat} {ns : List Int} (h : decide (V.int ((ns.map V.int).length : Int) = V.int (n : Int)) = true) : ns.length = n := by
  have e := V.int.inj (of_decide_eq_true h)
  rw [List.length_map] at e
  omega
theorem not_len {n : Nat} {ns : List Int} (h : ¬ decide (V.int ((ns.map V.int).length : Int) = V.int (n : Int)) = true) : ns.length ≠ n := fun e => h (decide_eq_true (by rw [List.length_map, e]))
theorem fr_no {ns : List Int} (h : ns.length ≠ 2) : isFr (ns.map V.int) = false := by
  match ns, h with
  | [], _ => rfl
  | [_], _ => rfl
  | _ :: _ :: _ :: _, _ => rfl
theorem dr_no {ns : List Int} (h : ns.length ≠ 2) : isDr (ns.map V.int) = false := by
  match ns, h with
  | [], _ => rfl
  | [_], _ => rfl
  | _ :: _ :: _ :: _, _ => rfl
theorem pt_no {ns : List Int} (h : ns.length ≠ 3) : isPt (ns.map V.int) = false := by
  match ns, h with
  | [], _ => rfl
  | [_], _ => rfl
  | [_, _], _ => rfl
  | _ :: _ :: _ :: _ :: _, _ => rfl
theorem fr_wh : ∀ {xs : List V}, isFr xs = true → xs.all wh = true
  | [.int n, .int m], _ => rfl
theorem dr_wh : ∀ {xs : List V}, isDr xs = true → xs.all wh = true
  | [.int n, .int m], _ => rfl
theorem pt_wh : ∀ {xs : List V}, isPt xs = true → xs.all wh = true
  | [.int x, .int y, .int w], _ => rfl
theorem of_wh {g : List V → Bool} (hg : ∀ {xs : List V}, g xs = true → xs.all wh = true) {xs : List V} (h : xs.all wh = false) : g xs = false := by
  cases e : g xs with
  | false => rfl
  | true => rw [hg e] at h; cases h
section
variable {P : Program} {w : World} {K :
      PySem.W.Frag} {mg : Str → Option Value} {base : Heap}
/-! ### gcds -/
abbrev n_common_divisor : List Str := ["numbers", "found", "number"]
abbrev p_common_divisor : List Str := ["numbers"]
theorem sc_common_divisor : FnScope n_common_divisor p_common_divisor (defScope sCom) := ⟨rfl, rfl, rfl, by decide +kernel, rfl, by decide +kernel, by decide +kernel⟩
def spCom (K : PySem.W.Frag) : Sp := fun vs H Q _ => ∃ (t : Addr) (ns : List Int), vs = [.ref t] ∧ SqT K H t (ns.map V.int) ∧ Q (.int (gAll ns : Nat)) H
theorem ok_com {f : Addr} {fd : FuncData} (F : Fun K "common_divisor" "common_divisor" sCom f fd) (mG : mg "gcd" = some (.builtin "math.gcd")) : FnOk P w K mg base CX0 1 f fd p_common_divisor (spCom K) := by
  refine F.ok sc_common_divisor (fun vs H Q E h => ?_) (fun cdv A outer s H vs Q E hr h => ?_)
  · obtain ⟨t, ns, rfl, _⟩ := h
    rfl
  · obtain ⟨t, ns, rfl, hS, k⟩ := h
    refine ⟨_, (pss_cons (ps_set (i := 1) sc_common_divisor.nd rfl (Or.inl rfl) pe_int)
      (pss_cons (ps_for PassesOwn.never rfl (pi_tup (pv 0)) (pg_name (i := 2) sc_common_divisor.nd rfl (Or.inl rfl)) (pss_one (ps_set (i := 1) sc_common_divisor.nd rfl (Or.inl rfl) (pe_callBfun cr_gcd (by rfl) mG (pa_cons (pv 1) (pa_cons (pv 2) pa_nil))))))
      (pss_one (ps_ret (pv 1))))), ?_⟩
    refine ⟨_, rfl, t, rfl, ⟨_, hS⟩, for_tup (K := K) (a := t) (xs := ns.map V.int) (fun i σ H' => ∃ v : Option V, σ = [some (.ref t), some (.int (gAll (ns.take i) : Nat)), v] ∧ H' = H) ⟨none, rfl, rfl⟩ (fun i σ H' _ ⟨_, _, e⟩ => e ▸ hS) ?_ ?_⟩
    · rintro i y σ H' hi ⟨v, rfl, rfl⟩
      obtain ⟨z, hz, rfl⟩ := map_at hi
      refine ⟨_, rfl, _, rfl, _, _, rfl, some (V.int z), ?_, rfl⟩
      rw [gAll_next hz, Int.natAbs_natCast]
      rfl
    · rintro σ H' ⟨v, rfl, rfl⟩
      rw [List.length_map,
            List.take_length]
      exact ⟨_, rfl, k⟩
/-! ### whole numbers -/
def spWhole (K : PySem.W.Frag) : Sp := fun vs H Q _ => ∃ (x : V) (k : Kd), vs = [x] ∧ OfKd K H x k ∧ Q (.bl (wh x)) H
theorem whole_read {K : PySem.W.Frag} {x : V} {k : Kd} {H : Hp} {Q : VK} (hx : OfKd K H x k) (q : Q (.bl (wh x)) H) :
    tRet (tAndV (tCB (rIsi K) (tCons (tVar 0) (tCons (tC (.ty "int")) tNil))) (tNotV (tCB (rIsi K) (tCons (tVar 0) (tCons (tC (.ty "bool")) tNil))))) { nx := fun _ H' => Q .non H', rt := Q } [some x] H := by
  refine ⟨x, rfl, x, _, _, _, _, rfl, .ty "int", hx, kit_ty (kd_int k), _, rfl, ?_⟩
  have ew := ofKd_wh hx
  refine ite2 (fun c
        => ?_) (fun c => ?_)
  · refine ⟨x, rfl, x, _, _, _, _, rfl, .ty "bool", hx, kit_ty (kd_bool k), _, rfl, ?_⟩
    have : (!(k == Kd.bool)) = wh x := by
      rw [← ew]
      cases k <;> first | rfl | (exact absurd c (by decide))
    rw [this]
    exact q
  · have : false = wh x := by
      rw [← ew]
      cases k <;> first | rfl | (exact absurd rfl c)
    rw [this]
    exact q
abbrev n_is_whole : List Str := ["value"]
theorem sc_is_whole : FnScope n_is_whole n_is_whole (defScope sWhole) := ⟨rfl, rfl, rfl, by decide +kernel, rfl, by decide +kernel, by decide +kernel⟩
theorem ok_whole {f : Addr} {fd : FuncData} (F : Fun K "is_whole" "is_whole" sWhole f fd) (T : Bl mg) : FnOk P w K mg base CX0 1 f fd n_is_whole (spWhole K) := by
  refine F.ok sc_is_whole (fun vs H Q E h => ?_) (fun cdv A outer s H vs Q E hr h => ?_)
  · obtain ⟨x, k, rfl, _⟩ := h
    rfl
  · obtain ⟨x, k, rfl, hx, q⟩ := h
    exact ⟨_, (pss_one (ps_ret (pe_and (pe_callB call_isi (by rfl) T.isinstance PyProof.Rows.boot_isinstance (pa_cons (pv 0) (pa_cons (pe_bltn (v := .ty "int") (by rfl) T.int PyProof.Rows.boot_int rfl) pa_nil))) (pe_one (pe_not (pe_callB call_isi (by rfl) T.isinstance PyProof.Rows.boot_isinstance (pa_cons (pv 0) (pa_cons (pe_bltn (v := .ty "bool") (by rfl) T.bool PyProof.Rows.boot_bool rfl) pa_nil)))))))), whole_read hx q⟩
abbrev n_law_is_whole : List Str := ["_law_number"]
theorem sc_law_is_whole : FnScope n_law_is_whole n_law_is_whole (defScope sLWhole) := ⟨rfl, rfl, rfl, by decide +kernel, rfl, by decide +kernel, by decide +kernel⟩
theorem ok_lwhole {f : Addr} {fd : FuncData} (F : Fun K "_law_is_whole" "_law_is_whole" sLWhole f fd) (T : Bl mg) : FnOk P w K mg base CX0 1 f fd n_law_is_whole (spWhole K) := by
  refine F.ok sc_law_is_whole (fun vs H Q E h => ?_) (fun cdv A outer s H vs Q E hr h => ?_)
  · obtain ⟨x, k, rfl, _⟩ := h
    rfl
  · obtain ⟨x, k, rfl, hx, q⟩ := h
    exact ⟨_, (pss_one (ps_ret (pe_and (pe_callB call_isi (by rfl) T.isinstance PyProof.Rows.boot_isinstance (pa_cons (pv 0) (pa_cons (pe_bltn (v := .ty "int") (by rfl) T.int PyProof.Rows.boot_int rfl) pa_nil))) (pe_one (pe_not (pe_callB call_isi (by rfl) T.isinstance PyProof.Rows.boot_isinstance (pa_cons (pv 0) (pa_cons (pe_bltn (v := .ty "bool") (by rfl) T.bool PyProof.Rows.boot_bool rfl) pa_nil)))))))), whole_read hx q⟩
end
end K2

namespace K2
open PySem L2 Ur
section
variable {P : Program} {w : World} {K :
      PySem.W.Frag} {mg : Str → Option Value} {base : Heap}
abbrev n_wholes_fit : List Str := ["value", "number"]
abbrev p_wholes_fit : List Str := ["value"]
theorem sc_wholes_fit : FnScope n_wholes_fit p_wholes_fit (defScope sWholes) := ⟨rfl, rfl, rfl, by decide +kernel, rfl, by decide +kernel, by decide +kernel⟩
/-- told of a value of any kind -/
def spTold (K : PySem.W.Frag) (g : List V → Bool) : Sp := fun vs H Q _ => ∃ (x : V) (k : Kd) (xs : List V), vs = [x] ∧ Arg K H x k xs ∧ ∀ H' : Hp, Same H H' → Q (.bl (k == .tup && g xs)) H'
theorem kd_ne {k : Kd} {b : Bool} (c : ¬ (k == Kd.tup) = true) : (k == Kd.tup && b) = false := by
  cases h : (k == Kd.tup) with
  | true => exact absurd h c
  | false => rfl
theorem ok_wholes {f : Addr} {fd : FuncData} (F : Fun K "wholes_fit" "wholes_fit" sWholes f fd) (T : Bl mg) (H_is_whole : Has P w K mg base "is_whole" n_is_whole 1 (spWhole K)) : FnOk P w K mg base CX0 2 f fd p_wholes_fit (spTold K fun xs => xs.all wh) := by
  refine F.ok sc_wholes_fit (fun vs H Q E h => ?_) (fun cdv A outer s H vs Q E hr h => ?_)
  · obtain ⟨x, k, xs, rfl, _⟩ := h
    rfl
  · obtain ⟨x, k, xs, rfl, A1, q⟩ := h
    refine ⟨_, (pss_one (ps_ret (pe_and (pe_callB call_isi (by rfl) T.isinstance PyProof.Rows.boot_isinstance (pa_cons (pv 0) (pa_cons (pe_bltn (v := .ty "tuple") (by rfl) T.tuple PyProof.Rows.boot_tuple rfl) pa_nil))) (pe_one (pe_callB (cr_all rfl) (by rfl) T.all PyProof.Rows.boot_all (pa_cons (pe_lc (own := [("number", 1)]) (g := gName 1) (tt := tYes) rfl sc_wholes_fit.nd (pi_tup (pv 0)) (blkOk_by (N := n_wholes_fit) (sc := defScope sWholes) (by decide +kernel)) (fun _ _ _ _ _ => pg_name (i := 1) sc_wholes_fit.nd rfl (Or.inl rfl)) (fun _ _ _ _ _ => pts_nil) (fun _ _ _ _ _ => (pe_has H_is_whole (hr.mono (by decide)) (by rfl) (pa_cons (pv 1) pa_nil)))) pa_nil)))))), ?_⟩
    refine ⟨x, rfl, x, _, _, _, _, rfl, .ty "tuple", A1.ty, kit_ty (kd_tup k), _, rfl, ?_⟩
    refine ite2 (fun c
          => ?_) (fun c => ?_)
    · obtain ⟨a, rfl, hS, hl, hk, hb⟩ := A1.its (by simpa using c)
      unfold tCB tCons tNil
      dsimp only
      refine lcT (K := K) (a := a) (xs := xs) (fun i y => ∃ z, xs[i]? = some z ∧ y = .bl (wh z)) (fun R r => ⟨_, rfl, r⟩) hS (by omega) (fun x => rfl) (fun i z H3 hi sm Q' q' => ?_) (fun D ys H2 hD sm hy e1 e2 => ?_)
      · obtain ⟨l, hl⟩ := (hk z (List.mem_of_getElem? hi)).kd
        exact ⟨z, rfl, z, l, rfl, ofKd_same sm hl, q' _ _ ⟨z, hi, rfl⟩ (Same.refl _)⟩
      · have ey : ys = (xs.map wh).map V.bl := by
          apply List.ext_getElem?
          intro i
          cases h : ys[i]? with
          | none =>
            have := List.getElem?_eq_none_iff.mp h
            rw [List.getElem?_eq_none (by simp at e1 ⊢; omega)]
          | some y =>
            obtain ⟨z, hz, rfl⟩ := e2 i y h
            simp [hz]
        rw [ey] at hy
        refine ⟨D, xs.map wh, rfl, SqL.of hy, ?_⟩
        have e3 : (xs.map wh).all id = (k == Kd.tup && xs.all wh) := by
          rw [c, List.all_map]
          rfl
        rw [e3]
        exact q H2 sm
    · have := q H (Same.refl H)
      rw [kd_ne c] at this
      exact this
abbrev n_value : List Str := ["value"]
theorem sc_frac : FnScope n_value n_value (defScope sFracF) := ⟨rfl, rfl, rfl, by decide +kernel, rfl, by decide +kernel, by decide +kernel⟩
theorem sc_point : FnScope n_value n_value (defScope sPointF) := ⟨rfl, rfl, rfl, by decide +kernel, rfl, by decide +kernel, by decide +kernel⟩
theorem sc_dir : FnScope n_value n_value (defScope sDirF) := ⟨rfl, rfl, rfl, by decide +kernel, rfl, by decide +kernel, by decide +kernel⟩
theorem ok_fracF {f : Addr} {fd : FuncData} (F : Fun K "fraction_fits" "fraction_fits" sFracF f fd) (T : Bl mg) (mG : mg "gcd" = some (.builtin "math.gcd")) (H_wholes_fit : Has P w K mg base "wholes_fit" p_wholes_fit 2 (spTold K fun xs => xs.all wh)) : FnOk P w K mg base CX0 3 f fd n_value (spTold K isFr) := by
  refine F.ok sc_frac (fun vs H Q E h => ?_) (fun cdv A outer s H vs Q E hr h => ?_)
  · obtain ⟨x, k, xs, rfl, _⟩ := h
    rfl
  · obtain ⟨x, k, xs, rfl, A1, q⟩ := h
    refine ⟨_, (pss_one (ps_ret (pe_and (pe_has H_wholes_fit (hr.mono (by decide)) (by rfl) (pa_cons (pv 0) pa_nil)) (pe_and (pe_cmpR op_eq (pe_callB call_len_seq (by rfl) T.len PySem.boot_len (pa_cons (pv 0) pa_nil)) pe_int (nomark _)) (pe_and (pe_cmpR op_gt (pe_ix ix_tup (pv 0) pe_int (fun _ _ => rfl)) pe_int (nomark _)) (pe_one (pe_cmpR op_eq (pe_callBfun cr_gcd (by rfl) mG (pa_cons (pe_ix ix_tup (pv 0) pe_int (fun _ _ => rfl)) (pa_cons (pe_ix ix_tup (pv 0) pe_int (fun _ _ => rfl)) pa_nil))) pe_int (nomark _)))))))), ?_⟩
    refine ⟨x, rfl, x, k, xs, rfl, A1, fun H1 s1 => ⟨_, rfl, ?_⟩⟩
    have no : isFr xs = false → Q (.bl false) H1 := fun e => by
      have := q H1 s1
      rw [e, Bool.and_false] at this
      exact this
    refine ite2 (fun c
          => ?_) (fun c => ?_)
    · rw [Bool.and_eq_true] at c
      obtain ⟨a, rfl, hS, _, _, _⟩ := (A1.same s1).its (by simpa using c.1)
      obtain ⟨ns, rfl⟩ := all_wh c.2
      refine ⟨_, rfl, a, _, rfl, Or.inr hS, rfl, _, rfl, ?_⟩
      refine ite2 (fun c2 => ?_) (fun c2 => no (fr_no (not_len (n := 2) c2)))
      match ns, ns_len (n := 2) c2, q, no, hS with
      | [n, m], _, q, no, hS =>
        refine ⟨_, rfl, a, _, 1, _, rfl, rfl, hS, rfl, _, _, rfl, rfl, _, rfl, ?_⟩
        refine ite2 (fun c3 => ?_) (fun c3 => ?_)
        · refine ⟨_, rfl, a, _, 0, _, rfl, rfl, hS, rfl, _, rfl, a, _, 1, _, rfl, rfl, hS, rfl, _, _, rfl, rfl, ?_⟩
          have := q H1 s1
          have e : (k == Kd.tup && isFr ([n, m].map V.int)) = decide (V.int ((Nat.gcd n.natAbs m.natAbs : Nat) : Int) = V.int 1) := by
            rw [c.1]
            show (decide (0 < m) && decide (Nat.gcd n.natAbs m.natAbs = 1)) = _
            rw [c3, Bool.true_and]
            refine decide_eq_decide.mpr ⟨fun e => by rw [e]; rfl, fun e => ?_⟩
            have := V.int.inj e
            omega
          rw [e] at this
          exact this
        · refine no ?_
          show (decide (0 < m) && _) = false
          rw [Bool.eq_false_iff.mpr c3]
          rfl
    · have := q H1 s1
      have e : (k == Kd.tup && isFr xs) = false := by
        cases h : (k == Kd.tup) with
        | false => rfl
        | true =>
          rw [h, Bool.true_and] at c
          rw [of_wh fr_wh (by simpa using c)]
          rfl
      rw [e] at this
      exact this
/-- where the first test says no -/
theorem no_of {k : Kd} {xs : List V} {g : List V → Bool} (hg : ∀ {xs : List V}, g xs = true → xs.all wh = true) (c : ¬ (k == Kd.tup && (fun xs => xs.all wh) xs) = true) : (k == .tup && g xs) = false := by
  cases h : (k == Kd.tup) with
  | false => rfl
  | true =>
    rw [h, Bool.true_and] at c
    rw [of_wh hg (by simpa using c)]
    rfl
theorem ok_pointF {f : Addr} {fd : FuncData} (F : Fun K "point_fits" "point_fits" sPointF f fd) (T : Bl mg) (H_common_divisor : Has P w K mg base "common_divisor" p_common_divisor 1 (spCom K)) (H_wholes_fit : Has P w K mg base "wholes_fit" p_wholes_fit 2 (spTold K fun xs => xs.all wh)) : FnOk P w K mg base CX0 3 f fd n_value (spTold K isPt) := by
  refine F.ok sc_point (fun vs H Q E h => ?_) (fun cdv A outer s H vs Q E hr h => ?_)
  · obtain ⟨x, k, xs, rfl, _⟩ := h
    rfl
  · obtain ⟨x, k, xs, rfl, A1, q⟩ := h
    refine ⟨_, (pss_one (ps_ret (pe_and (pe_has H_wholes_fit (hr.mono (by decide)) (by rfl) (pa_cons (pv 0) pa_nil)) (pe_and (pe_cmpR op_eq (pe_callB call_len_seq (by rfl) T.len PySem.boot_len (pa_cons (pv 0) pa_nil)) pe_int (nomark _)) (pe_and (pe_cmpR op_gt (pe_ix ix_tup (pv 0) pe_int (fun _ _ => rfl)) pe_int (nomark _)) (pe_one (pe_cmpR op_eq (pe_has H_common_divisor (hr.mono (by decide)) (by rfl) (pa_cons (pv 0) pa_nil)) pe_int (nomark _)))))))), ?_⟩
    refine ⟨x, rfl, x, k, xs, rfl, A1, fun H1 s1 => ⟨_, rfl, ?_⟩⟩
    have no : (k == .tup && isPt xs) = false → Q (.bl false) H1 := fun e => by
      have := q H1 s1
      rw [e] at this
      exact this
    refine ite2 (fun c => ?_) (fun c => no (no_of pt_wh c))
    rw [Bool.and_eq_true] at c
    obtain ⟨a, rfl, hS, _, _, _⟩ := (A1.same s1).its (by simpa using c.1)
    obtain ⟨ns, rfl⟩ := all_wh c.2
    refine ⟨_, rfl, a, _, rfl, Or.inr hS, rfl, _, rfl, ?_⟩
    refine ite2 (fun c2 => ?_) (fun c2 => no (by rw [pt_no (not_len (n := 3) c2), Bool.and_false]))
    match ns, ns_len (n := 3) c2, q, no, hS with
    | [n, m, l], _, q, no, hS =>
      refine ⟨_, rfl, a, _, 2, _, rfl, rfl, hS, rfl, _, _, rfl, rfl, _, rfl, ?_⟩
      refine ite2 (fun c3 => ?_) (fun c3 => ?_)
      · refine ⟨_, rfl, a, [n, m, l], rfl, hS, rfl, ?_⟩
        have := q H1 s1
        have e : (k == Kd.tup && isPt ([n, m, l].map V.int)) = decide (V.int (gAll [n, m, l] : Nat) = V.int 1) := by
          rw [c.1]
          show (decide (0 < l) && decide (Nat.gcd (Nat.gcd n.natAbs m.natAbs) l.natAbs = 1)) = _
          rw [c3, Bool.true_and]
          show _ = decide (V.int ((Nat.gcd (Nat.gcd (Nat.gcd 0 n.natAbs) m.natAbs) l.natAbs : Nat) : Int) = V.int 1)
          rw [Nat.gcd_zero_left]
          refine decide_eq_decide.mpr ⟨fun e => by rw [e]; rfl, fun e => ?_⟩
          have := V.int.inj e
          omega
        rw [e] at this
        exact this
      · refine no ?_
        rw [c.1]
        show (decide (0 < l) && _) = false
        rw [Bool.eq_false_iff.mpr c3]
        rfl
theorem ok_dirF {f : Addr} {fd : FuncData} (F : Fun K "direction_fits" "direction_fits" sDirF f fd) (T : Bl mg) (mG : mg "gcd" = some (.builtin "math.gcd")) (H_wholes_fit : Has P w K mg base "wholes_fit" p_wholes_fit 2 (spTold K fun xs => xs.all wh)) : FnOk P w K mg base CX0 3 f fd n_value (spTold K isDr) := by
  refine F.ok sc_dir (fun vs H Q E h => ?_) (fun cdv A outer s H vs Q E hr h => ?_)
  · obtain ⟨x, k, xs, rfl, _⟩ := h
    rfl
  · obtain ⟨x, k, xs, rfl, A1, q⟩ := h
    refine ⟨_, (pss_one (ps_ret (pe_and (pe_has H_wholes_fit (hr.mono (by decide)) (by rfl) (pa_cons (pv 0) pa_nil)) (pe_and (pe_cmpR op_eq (pe_callB call_len_seq (by rfl) T.len PySem.boot_len (pa_cons (pv 0) pa_nil)) pe_int (nomark _)) (pe_one (pe_cmpR op_eq (pe_callBfun cr_gcd (by rfl) mG (pa_cons (pe_ix ix_tup (pv 0) pe_int (fun _ _ => rfl)) (pa_cons (pe_ix ix_tup (pv 0) pe_int (fun _ _ => rfl)) pa_nil))) pe_int (nomark _))))))), ?_⟩
    refine ⟨x, rfl, x, k, xs, rfl, A1, fun H1 s1 => ⟨_, rfl, ?_⟩⟩
    have no : (k == .tup && isDr xs) = false → Q (.bl false) H1 := fun e => by
      have := q H1 s1
      rw [e] at this
      exact this
    refine ite2 (fun c => ?_) (fun c => no (no_of dr_wh c))
    rw [Bool.and_eq_true] at c
    obtain ⟨a, rfl, hS, _, _, _⟩ := (A1.same s1).its (by simpa using c.1)
    obtain ⟨ns, rfl⟩ := all_wh c.2
    refine ⟨_, rfl, a, _, rfl, Or.inr hS, rfl, _, rfl, ?_⟩
    refine ite2 (fun c2 => ?_) (fun c2 => no (by rw [dr_no (not_len (n := 2) c2), Bool.and_false]))
    match ns, ns_len (n := 2) c2, q, no, hS with
    | [n, m], _, q, no, hS =>
      refine ⟨_, rfl, a, _, 0, _, rfl, rfl, hS, rfl, _, rfl, a, _, 1, _, rfl, rfl, hS, rfl, _, _, rfl, rfl, ?_⟩
      have := q H1 s1
      have e : (k == Kd.tup && isDr ([n, m].map V.int)) = decide (V.int ((Nat.gcd n.natAbs m.natAbs : Nat) : Int) = V.int 1) := by
        rw [c.1]
        show (true && decide (Nat.gcd n.natAbs m.natAbs = 1)) = _
        rw [Bool.true_and]
        refine decide_eq_decide.mpr ⟨fun e => by rw [e]; rfl, fun e => ?_⟩
        have := V.int.inj e
        omega
      rw [e] at this
      exact this
/-! ### the module's own -/
theorem sc_isFrac : FnScope n_value n_value (defScope sIsFrac) := ⟨rfl, rfl, rfl, by decide +kernel, rfl, by decide +kernel, by decide +kernel⟩
theorem sc_isPoint : FnScope n_value n_value (defScope sIsPoint) := ⟨rfl, rfl, rfl, by decide +kernel, rfl, by decide +kernel, by decide +kernel⟩
theorem sc_isDir : FnScope n_value n_value (defScope sIsDir) := ⟨rfl, rfl, rfl, by decide +kernel, rfl, by decide +kernel, by decide +kernel⟩
theorem pass_read {x : V} {k : Kd} {xs : List V} {g : List V → Bool} {H : Hp} {Q : VK} (A1 : Arg K H x k xs) (q : ∀ H' : Hp, Same H H' → Q (.bl (k == .tup && g xs)) H') :
    tRet (tCall (spTold K g) [] E0 (tCons (tVar 0) tNil)) { nx := fun _ H' => Q .non H', rt := Q } [some x] H := ⟨x, rfl, x, k, xs, rfl, A1, q⟩
theorem ok_isFrac {f : Addr} {fd : FuncData} (F : Fun K "is_fraction" "is_fraction" sIsFrac f fd) (H_fraction_fits : Has P w K mg base "fraction_fits" n_value 3 (spTold K isFr)) : FnOk P w K mg base CX0 4 f fd n_value (spTold K isFr) := by
  refine F.ok sc_isFrac (fun vs H Q E h => ?_) (fun cdv A outer s H vs Q E hr h => ?_)
  · obtain ⟨x, k, xs, rfl, _⟩ := h
    rfl
  · obtain ⟨x, k, xs, rfl, A1, q⟩ := h
    exact ⟨_, (pss_one (ps_ret (pe_has H_fraction_fits (hr.mono (by decide)) (by rfl) (pa_cons (pv 0) pa_nil)))), pass_read A1 q⟩
theorem ok_isPoint {f : Addr} {fd : FuncData} (F : Fun K "is_point" "is_point" sIsPoint f fd) (H_point_fits : Has P w K mg base "point_fits" n_value 3 (spTold K isPt)) : FnOk P w K mg base CX0 4 f fd n_value (spTold K isPt) := by
  refine F.ok sc_isPoint (fun vs H Q E h => ?_) (fun cdv A outer s H vs Q E hr h => ?_)
  · obtain ⟨x, k, xs, rfl, _⟩ := h
    rfl
  · obtain ⟨x, k, xs, rfl, A1, q⟩ := h
    exact ⟨_, (pss_one (ps_ret (pe_has H_point_fits (hr.mono (by decide)) (by rfl) (pa_cons (pv 0) pa_nil)))), pass_read A1 q⟩
theorem ok_isDir {f : Addr} {fd : FuncData} (F : Fun K "is_direction" "is_direction" sIsDir f fd) (H_direction_fits : Has P w K mg base "direction_fits" n_value 3 (spTold K isDr)) : FnOk P w K mg base CX0 4 f fd n_value (spTold K isDr) := by
  refine F.ok sc_isDir (fun vs H Q E h => ?_) (fun cdv A outer s H vs Q E hr h => ?_)
  · obtain ⟨x, k, xs, rfl, _⟩ := h
    rfl
  · obtain ⟨x, k, xs, rfl, A1, q⟩ := h
    exact ⟨_, (pss_one (ps_ret (pe_has H_direction_fits (hr.mono (by decide)) (by rfl) (pa_cons (pv 0) pa_nil)))), pass_read A1 q⟩
end
end K2

namespace K2
open PySem L2 Ur
abbrev sAre : Stmt := top 22
abbrev sLFrac : Stmt := top 23
abbrev sLSpot : Stmt := top 24
abbrev sLAim : Stmt := top 25
/-! ### plain -/
theorem thin_one {ns : List Int} (h : gAll ns = 1) : thin ns = ns := by
  unfold thin
  rw [if_pos (by omega)]
theorem div_ne {g : Nat} {z : Int} (h2 : 2 ≤ g) (hd : g ∣ z.natAbs) (hz : z ≠ 0) : z / (g : Int) ≠ z := by
  intro e
  obtain ⟨q, hq⟩ := hd
  have hdv : (g : Int) ∣ z := Int.ofNat_dvd_left.mpr ⟨q, hq⟩
  have h3 := Int.ediv_mul_cancel hdv
  rw [e] at h3
  have h4 : z * (g : Int) = z * 1 := by rw [h3, Int.mul_one]
  have h5 := Int.eq_of_mul_eq_mul_left hz h4
  omega
theorem gAll_two (a b : Int) : gAll [a, b] = Nat.gcd a.natAbs b.natAbs := by
  show Nat.gcd (Nat.gcd 0 a.natAbs) b.natAbs = _
  rw [Nat.gcd_zero_left]
theorem gAll_three (a b c : Int) : gAll [a, b, c] = Nat.gcd (Nat.gcd a.natAbs b.natAbs) c.natAbs := by
  show Nat.gcd (Nat.gcd (Nat.gcd 0 a.natAbs) b.natAbs) c.natAbs = _
  rw [Nat.gcd_zero_left]
theorem spot_is {x y z : Int} (hz : 0 < z) : (thin [x, y, z] = [x, y, z]) ↔ Nat.gcd (Nat.gcd x.natAbs y.natAbs) z.natAbs = 1 := by
  have g0 : 0 < gAll [x, y, z] := by
    rw [gAll_three]
    exact Nat.gcd_pos_of_pos_right _ (by omega)
  constructor
  · intro e
    rw [← gAll_three]
    refine Classical.byContradiction fun h1 => ?_
    unfold thin at e
    rw [if_neg (by omega)] at e
    have e3 : z / ((gAll [x, y, z] : Nat) : Int) = z := by
      have := congrArg (fun l => l[2]?) e
      exact Option.some.inj this
    refine div_ne (by omega) ?_ (by omega) e3
    rw [gAll_three]
    exact Nat.gcd_dvd_right _ _
  · intro h
    exact thin_one (by rw [gAll_three]; exact h)
theorem aim_is {x y : Int} (h0 : ¬ (x = 0 ∧ y = 0)) : (thin [x, y] = [x, y]) ↔ Nat.gcd x.natAbs y.natAbs = 1 := by
  have g0 : 0 < gAll [x, y] := by
    rw [gAll_two]
    rcases Nat.eq_zero_or_pos (Nat.gcd x.natAbs y.natAbs) with h | h
    · rw [Nat.gcd_eq_zero_iff] at h
      exact absurd ⟨by omega, by omega⟩ h0
    · exact h
  constructor
  · intro e
    rw [← gAll_two]
    refine Classical.byContradiction fun h1 => ?_
    unfold thin at e
    rw [if_neg (by omega)] at e
    have e1 : x / ((gAll [x, y] : Nat) : Int) = x := Option.some.inj (congrArg (fun l => l[0]?) e)
    have e2 : y / ((gAll [x, y] : Nat) : Int) = y := Option.some.inj (congrArg (fun l => l[1]?) e)
    by_cases hx : x = 0
    · refine div_ne (by omega) ?_ (fun hy => h0 ⟨hx, hy⟩) e2
      rw [gAll_two]
      exact Nat.gcd_dvd_right _ _
    · refine div_ne (by omega) ?_ hx e1
      rw [gAll_two]
      exact Nat.gcd_dvd_left _ _
  · intro h
    exact thin_one (by rw [gAll_two]; exact h)
section
variable {P : Program} {w : World} {K :
      PySem.W.Frag} {mg : Str → Option Value} {base : Heap}
abbrev n_law_are_whole : List Str := ["_law_row", "_law_many", "_law_number"]
abbrev p_law_are_whole : List Str := ["_law_row", "_law_many"]
theorem sc_law_are_whole : FnScope n_law_are_whole p_law_are_whole (defScope sAre) := ⟨rfl, rfl, rfl, by decide +kernel, rfl, by decide +kernel, by decide +kernel⟩
def areB (k : Kd) (xs : List V) (m : Nat) : Bool := k == .tup && (decide (xs.length = m) && xs.all wh)
def spAre (K : PySem.W.Frag) : Sp := fun vs H Q _ => ∃ (x : V) (k : Kd) (xs : List V) (m : Nat), vs = [x, .int (m : Int)] ∧ Arg K H x k xs ∧ ∀ H' : Hp, Same H H' → Q (.bl (areB k xs m)) H'
theorem ok_are {f : Addr} {fd : FuncData} (F : Fun K "_law_are_whole" "_law_are_whole" sAre f fd) (T : Bl mg) (H_law_is_whole : Has P w K mg base "_law_is_whole" n_law_is_whole 1 (spWhole K)) : FnOk P w K mg base CX0 2 f fd p_law_are_whole (spAre K) := by
  refine F.ok sc_law_are_whole (fun vs H Q E h => ?_) (fun cdv A outer s H vs Q E hr h => ?_)
  · obtain ⟨x, k, xs, m, rfl, _⟩ := h
    rfl
  · obtain ⟨x, k, xs, m, rfl, A1, q⟩ := h
    have hu : (A.deeper (PyProof.Rows.envOfC "_law_are_whole" (defScope sAre) s.heap.objs.size f cdv)).units + 64 < cLine := hr.units
    refine ⟨_, (pss_one (ps_ret (pe_and (pe_callB call_isi (by rfl) T.isinstance PyProof.Rows.boot_isinstance (pa_cons (pv 0) (pa_cons (pe_bltn (v := .ty "tuple") (by rfl) T.tuple PyProof.Rows.boot_tuple rfl) pa_nil))) (pe_and (pe_cmpR op_eq (pe_callB call_len_seq (by rfl) T.len PySem.boot_len (pa_cons (pv 0) pa_nil)) (pv 1) (nomark _)) (pe_one (pe_cmpR (op_eqD hu) (pe_lc (own := [("_law_number", 2)]) (g := gName 2) rfl sc_law_are_whole.nd (pi_tup (pv 0)) (blkOk_by (N := n_law_are_whole) (sc := defScope sAre) (by decide +kernel)) (fun _ _ _ _ _ => pg_name (i := 2) sc_law_are_whole.nd rfl (Or.inl rfl)) (fun _ _ _ _ _ => pts_one (pt_not (pt_val (pe_has H_law_is_whole (hr.mono (by decide)) (by rfl) (pa_cons (pv 2) pa_nil))))) (fun _ _ _ _ _ => (pv 2))) (pe_lst pa_nil) (nomark _))))))), ?_⟩
    refine ⟨x, rfl, x, _, _, _, _, rfl, .ty "tuple", A1.ty, kit_ty (kd_tup k), _, rfl, ?_⟩
    have no : areB k xs m = false → Q (.bl false) H := fun e => by
      have := q H (Same.refl H)
      rw [e] at this
      exact this
    refine ite2 (fun c => ?_) (fun c => no (kd_ne c))
    obtain ⟨a, rfl, hS, hl, hk, hb⟩ := A1.its (by simpa using c)
    refine ⟨_, rfl, a, _, rfl, Or.inr hS, _, rfl, rfl, _, rfl, ?_⟩
    refine ite2 (fun c2 => ?_) (fun c2 => no ?_)
    · have e2 : xs.length = m := by
        have := V.int.inj (of_decide_eq_true c2)
        omega
      unfold tOp
      refine lcTf (K := K) (a := a) (xs := xs) (fun z => !wh z) (fun R r => ⟨_, rfl, r⟩) hS (by omega) (fun x => rfl) (fun i z H3 hi sm Q' q' => ?_) (fun i z H3 hi sm Q' q' => ⟨z, rfl, q'⟩) (fun D H2 hD sm hy => ?_)
      · obtain ⟨l, hl⟩ := (hk z (List.mem_of_getElem? hi)).kd
        exact ⟨z, rfl, z, l, rfl, ofKd_same sm hl, _, rfl, q' _ (Same.refl _)⟩
      · refine ⟨by show 0 ≤ sizeLine; decide, fun p hp => ?_⟩
        have hpD : D ≠ p := ne_of_none hy hp
        obtain ⟨ds, d1, d2, d3, d4⟩ := its_dat (K := K) (H := upd H2 p (.lst [])) (ys := xs.filter fun z => !wh z) fun y hy => (hk y (List.mem_filter.mp hy).1).same (sm.trans (same_new hp))
        refine ⟨.list ds, .list [], .lst (SqL.of (by rw [upd_ne hpD]; exact hy)) d1, .lst (SqL.of upd_same) .nil, ?_, by decide +kernel, ?_⟩
        · unfold SeqAt.shaped
          show (PyData.canLayAll0 ds && decide (PyData.depthAll ds + 1 ≤ 64)) = true
          rw [d2, decide_eq_true (by omega)]
          rfl
        · have := q _ (sm.trans (same_new (p := p) (o := HO.lst []) hp))
          have e3 : areB k xs m = PyData.eqv (.list ds) (.list []) := by
            unfold areB
            rw [c, decide_eq_true e2, Bool.true_and, Bool.true_and]
            cases ds with
            | nil =>
              have e4 : xs.filter (fun z => !wh z) = [] := List.length_eq_zero_iff.mp (by rw [← d4]; rfl)
              rw [List.filter_eq_nil_iff] at e4
              show xs.all wh = true
              refine List.all_eq_true.mpr fun z hz => ?_
              have := e4 z hz
              simpa using this
            | cons d ds =>
              show xs.all wh = false
              have e4 : 0 < (xs.filter (fun z => !wh z)).length := by rw [← d4]; simp
              obtain ⟨z, hz⟩ := List.exists_mem_of_length_pos e4
              rw [List.mem_filter] at hz
              refine Bool.eq_false_iff.mpr fun h => ?_
              have := List.all_eq_true.mp h z hz.1
              rw [this] at hz
              exact absurd hz.2 (by decide)
          rw [e3] at this
          exact this
    · unfold areB
      have : xs.length ≠ m := fun e => c2 (decide_eq_true (by rw [e]))
      rw [decide_eq_false this, Bool.false_and, Bool.and_false]
theorem areB_yes {k : Kd} {xs : List V} {m : Nat} (h : areB k xs m = true) : k = .tup ∧ xs.length = m ∧ ∃ ns : List Int, xs = ns.map V.int := by
  unfold areB at h
  rw [Bool.and_eq_true, Bool.and_eq_true] at h
  exact ⟨by simpa using h.1, of_decide_eq_true h.2.1, all_wh h.2.2⟩
theorem areB_no {k : Kd} {xs : List V} {m : Nat} {g : List V → Bool} (h : ¬ areB k xs m = true) (hw : g xs = true → xs.length = m ∧ xs.all wh = true) : (k == .tup && g xs) = false := by
  cases hk : (k == Kd.tup) with
  | false => rfl
  | true =>
    cases hg : g xs with
    | false => rfl
    | true =>
      obtain ⟨h1, h2⟩ := hw hg
      refine absurd ?_ h
      unfold areB
      rw [hk, decide_eq_true h1, h2]
      rfl
theorem fr_len : ∀ {xs : List V}, isFr xs = true → xs.length = 2 ∧ xs.all wh = true
  | [.int n, .int m], _ => ⟨rfl, rfl⟩
theorem dr_len : ∀ {xs : List V}, isDr xs = true → xs.length = 2 ∧ xs.all wh = true
  | [.int n, .int m], _ => ⟨rfl, rfl⟩
theorem pt_len : ∀ {xs : List V}, isPt xs = true → xs.length = 3 ∧ xs.all wh = true
  | [.int x, .int y, .int w], _ => ⟨rfl, rfl⟩
abbrev n_lthing : List Str := ["_law_thing_here"]
theorem sc_lfrac : FnScope n_lthing n_lthing (defScope sLFrac) := ⟨rfl, rfl, rfl, by decide +kernel, rfl, by decide +kernel, by decide +kernel⟩
theorem sc_lspot : FnScope n_lthing n_lthing (defScope sLSpot) := ⟨rfl, rfl, rfl, by decide +kernel, rfl, by decide +kernel, by decide +kernel⟩
theorem sc_laim : FnScope n_lthing n_lthing (defScope sLAim) := ⟨rfl, rfl, rfl, by decide +kernel, rfl, by decide +kernel, by decide +kernel⟩
theorem mem_at {ns : List Int} {i : Nat} {z : Int} (h : ns[i]? = some z) : V.int z ∈ ns.map V.int := List.mem_map_of_mem (List.mem_of_getElem? h)
theorem ok_lfrac {f : Addr} {fd : FuncData} (F : Fun K "_law_is_frac" "_law_is_frac" sLFrac f fd) (T : Bl mg) (H_law_are_whole : Has P w K mg base "_law_are_whole" p_law_are_whole 2 (spAre K)) (H_law_gcd : Has P w K mg base "_law_gcd" p_law_gcd 1 spGcd) : FnOk P w K mg base CX0 3 f fd n_lthing (spTold K isFr) := by
  refine F.ok sc_lfrac (fun vs H Q E h => ?_) (fun cdv A outer s H vs Q E hr h => ?_)
  · obtain ⟨x, k, xs, rfl, _⟩ := h
    rfl
  · obtain ⟨x, k, xs, rfl, A1, q⟩ := h
    refine ⟨_, (pss_one (ps_ret (pe_and (pe_has H_law_are_whole (hr.mono (by decide)) (by rfl) (pa_cons (pv 0) (pa_cons pe_int pa_nil))) (pe_and (pe_cmpR op_gt (pe_ix ix_tup (pv 0) pe_int (fun _ _ => rfl)) pe_int (nomark _)) (pe_one (pe_cmpR op_eq (pe_has H_law_gcd (hr.mono (by decide)) (by rfl) (pa_cons (pe_callB call_abs (by rfl) T.abs PyProof.Rows.boot_abs (pa_cons (pe_ix ix_tup (pv 0) pe_int (fun _ _ => rfl)) pa_nil)) (pa_cons (pe_ix ix_tup (pv 0) pe_int (fun _ _ => rfl)) pa_nil))) pe_int (nomark _))))))), ?_⟩
    refine ⟨x, rfl, x, k, xs, 2, rfl, A1, fun H1 s1 => ⟨_, rfl, ?_⟩⟩
    have no : (k == .tup && isFr xs) = false → Q (.bl false) H1 := fun e => by
      have := q H1 s1
      rw [e] at this
      exact this
    refine ite2 (fun c => ?_) (fun c => no (areB_no c fr_len))
    obtain ⟨rfl, hl, ns, rfl⟩ := areB_yes c
    obtain ⟨a, rfl, hS, _, _, hb⟩ := (A1.same s1).its rfl
    match ns, (show ns.length = 2 by simpa using hl), q, no, hS, hb with
    | [n, m], _, q, no, hS, hb =>
      refine ⟨_, rfl, a, _, 1, _, rfl, rfl, hS, rfl, _, _, rfl, rfl, _, rfl, ?_⟩
      refine ite2 (fun c3 => ?_) (fun c3 => ?_)
      · have m0 := of_decide_eq_true c3
        refine ⟨_, rfl, a, _, 0, _, rfl, rfl, hS, rfl, _, rfl, _, rfl, a, _, 1, _, rfl, rfl, hS, rfl, n.natAbs, m.natAbs, ?_, ?_, rfl, ?_⟩
        · show [V.int (if n < 0 then -n else n), V.int m] ++ [] = _
          rw [abs_nat]
          have : m = ((m.natAbs : Nat) : Int) := by omega
          rw [List.append_nil, ← this]
        · exact hb m (mem_at (ns := [n, m]) (i := 1) rfl)
        · have := q H1 s1
          have e : (Kd.tup == Kd.tup && isFr ([n, m].map V.int)) = decide (V.int ((Nat.gcd n.natAbs m.natAbs : Nat) : Int) = V.int 1) := by
            show (decide (0 < m) && decide (Nat.gcd n.natAbs m.natAbs = 1)) = _
            rw [c3, Bool.true_and]
            refine decide_eq_decide.mpr ⟨fun e => by rw [e]; rfl, fun e => ?_⟩
            have := V.int.inj e
            omega
          rw [e] at this
          exact this
      · refine no ?_
        show (decide (0 < m) && _) = false
        rw [Bool.eq_false_iff.mpr c3]
        rfl
theorem ok_lspot {f : Addr} {fd : FuncData} (F : Fun K "_law_is_spot" "_law_is_spot" sLSpot f fd) (T : Bl mg) (H_law_are_whole : Has P w K mg base "_law_are_whole" p_law_are_whole 2 (spAre K)) (H_law_thin : Has P w K mg base "_law_thin" p_law_thin 2 (spThin K)) : FnOk P w K mg base CX0 3 f fd n_lthing (spTold K isPt) := by
  refine F.ok sc_lspot (fun vs H Q E h => ?_) (fun cdv A outer s H vs Q E hr h => ?_)
  · obtain ⟨x, k, xs, rfl, _⟩ := h
    rfl
  · obtain ⟨x, k, xs, rfl, A1, q⟩ := h
    have hu : (A.deeper (PyProof.Rows.envOfC "_law_is_spot" (defScope sLSpot) s.heap.objs.size f cdv)).units + 64 < cLine := hr.units
    refine ⟨_, (pss_one (ps_ret (pe_and (pe_has H_law_are_whole (hr.mono (by decide)) (by rfl) (pa_cons (pv 0) (pa_cons pe_int pa_nil))) (pe_and (pe_cmpR op_gt (pe_ix ix_tup (pv 0) pe_int (fun _ _ => rfl)) pe_int (nomark _)) (pe_one (pe_cmpR (op_eqD hu) (pe_has H_law_thin (hr.mono (by decide)) (by rfl) (pa_cons (pv 0) pa_nil)) (pv 0) (nomark _))))))), ?_⟩
    refine ⟨x, rfl, x, k, xs, 3, rfl, A1, fun H1 s1 => ⟨_, rfl, ?_⟩⟩
    have no : (k == .tup && isPt xs) = false → Q (.bl false) H1 := fun e => by
      have := q H1 s1
      rw [e] at this
      exact this
    refine ite2 (fun c => ?_) (fun c => no (areB_no c pt_len))
    obtain ⟨rfl, hl, ns, rfl⟩ := areB_yes c
    obtain ⟨a, rfl, hS, _, _, hb⟩ := (A1.same s1).its rfl
    match ns, (show ns.length = 3 by simpa using hl), q, no, hS, hb with
    | [n, m, l], _, q, no, hS, hb =>
      refine ⟨_, rfl, a, _, 2, _, rfl, rfl, hS, rfl, _, _, rfl, rfl, _, rfl, ?_⟩
      refine ite2 (fun c3 => ?_) (fun c3 => ?_)
      · have l0 := of_decide_eq_true c3
        refine ⟨_, rfl, a, [n, m, l], rfl, hS, by simp, fun z hz => hb z (List.mem_map_of_mem hz), fun p H2 s2 hp => ?_⟩
        refine ⟨_, rfl, _, _, dp_ints hp, dp_ints (ns := [n, m, l]) (same_sqT s2 hS), shaped_ints _, shaped_ints _, ?_⟩
        rw [eqv_ints]
        have := q H2 (s1.trans s2)
        have e : (Kd.tup == Kd.tup && isPt ([n, m, l].map V.int)) = decide (thin [n, m, l] = [n, m, l]) := by
          show (decide (0 < l) && decide (Nat.gcd (Nat.gcd n.natAbs m.natAbs) l.natAbs = 1)) = _
          rw [c3, Bool.true_and]
          exact decide_eq_decide.mpr (spot_is l0).symm
        rw [e] at this
        exact this
      · refine no ?_
        show (decide (0 < l) && _) = false
        rw [Bool.eq_false_iff.mpr c3]
        rfl
theorem ok_laim {f : Addr} {fd : FuncData} (F : Fun K "_law_is_aim" "_law_is_aim" sLAim f fd) (T : Bl mg) (H_law_are_whole : Has P w K mg base "_law_are_whole" p_law_are_whole 2 (spAre K)) (H_law_thin : Has P w K mg base "_law_thin" p_law_thin 2 (spThin K)) : FnOk P w K mg base CX0 3 f fd n_lthing (spTold K isDr) := by
  refine F.ok sc_laim (fun vs H Q E h => ?_) (fun cdv A outer s H vs Q E hr h => ?_)
  · obtain ⟨x, k, xs, rfl, _⟩ := h
    rfl
  · obtain ⟨x, k, xs, rfl, A1, q⟩ := h
    have hu : (A.deeper (PyProof.Rows.envOfC "_law_is_aim" (defScope sLAim) s.heap.objs.size f cdv)).units + 64 < cLine := hr.units
    refine ⟨_, (pss_one (ps_ret (pe_and (pe_has H_law_are_whole (hr.mono (by decide)) (by rfl) (pa_cons (pv 0) (pa_cons pe_int pa_nil))) (pe_and (pe_cmpR (op_neD hu) (pv 0) (pe_tup (pa_cons pe_int (pa_cons pe_int pa_nil))) (nomark _)) (pe_one (pe_cmpR (op_eqD hu) (pe_has H_law_thin (hr.mono (by decide)) (by rfl) (pa_cons (pv 0) pa_nil)) (pv 0) (nomark _))))))), ?_⟩
    refine ⟨x, rfl, x, k, xs, 2, rfl, A1, fun H1 s1 => ⟨_, rfl, ?_⟩⟩
    have no : (k == .tup && isDr xs) = false → ∀ H2, Same H H2 → Q (.bl false) H2 := fun e H2 s2 => by
      have := q H2 s2
      rw [e] at this
      exact this
    refine ite2 (fun c => ?_) (fun c => no (areB_no c dr_len) H1 s1)
    obtain ⟨rfl, hl, ns, rfl⟩ := areB_yes c
    obtain ⟨a, rfl, hS, _, _, hb⟩ := (A1.same s1).its rfl
    match ns, (show ns.length = 2 by simpa using hl), q, no, hS, hb with
    | [n, m], _, q, no, hS, hb =>
      refine ⟨_, rfl, by show 2 ≤ sizeLine; decide, fun p hp => ?_⟩
      have s2 := s1.trans (same_new (p := p) (o := HO.tup [V.int 0, V.int 0]) hp)
      have hS2 := same_sqT (same_new (p := p) (o := HO.tup [V.int 0, V.int 0]) hp) hS
      refine ⟨_, _, dp_ints (ns := [n, m]) hS2, dp_ints (ns := [0, 0]) (SqT.of upd_same), shaped_ints _, shaped_ints _, _, rfl, ?_⟩
      rw [eqv_ints]
      refine ite2 (fun c3 => ?_) (fun c3 => ?_)
      · have n0 : ¬ (n = 0 ∧ m = 0) := fun ⟨e1, e2⟩ => by
          subst e1 e2
          exact absurd c3 (by decide)
        refine ⟨_, rfl, a, [n, m], rfl, hS2, by simp, fun z hz => hb z (List.mem_map_of_mem hz), fun p2 H2 s3 hp2 => ?_⟩
        refine ⟨_, rfl, _, _, dp_ints hp2, dp_ints (ns := [n, m]) (same_sqT s3 hS2), shaped_ints _, shaped_ints _, ?_⟩
        rw [eqv_ints]
        have := q H2 (s2.trans s3)
        have e : (Kd.tup == Kd.tup && isDr ([n, m].map V.int)) = decide (thin [n, m] = [n, m]) := by
          show decide (Nat.gcd n.natAbs m.natAbs = 1) = _
          exact decide_eq_decide.mpr (aim_is n0).symm
        rw [e] at this
        exact this
      · refine no ?_ _ s2
        have e : [n, m] = [0, 0] := by
          refine Classical.byContradiction fun z => c3 ?_
          rw [decide_eq_false z]
          rfl
        injection e with e1 e2
        injection e2 with e2
        subst e1 e2
        rfl
end
end K2

namespace K2
open PySem L2 Ur
abbrev sThing : Stmt := top 26
abbrev sRight : Stmt := top 27
abbrev sLaw : Stmt := top 28
section
variable {P : Program} {w : World} {K :
      PySem.W.Frag} {mg : Str → Option Value} {base : Heap}
abbrev p_law_any : List Str := ["_law_urn_here", "_law_some"]
theorem sc_law_any : FnScope p_law_any p_law_any (defScope sAny) := ⟨rfl, rfl, rfl, by decide +kernel, rfl, by decide +kernel, by decide +kernel⟩
def spAny : Sp := fun vs H Q _ => ∃ (u l : Addr) (xs : List V), vs = [.ref u, .ref l] ∧ H u = some (UrnO u) ∧ H l = some (.lst xs) ∧ 0 < xs.length ∧ xs.length ≤ 1000 ∧ ∀ (x : V) (H' : Hp), x ∈ xs → Same H H' → Q x H'
theorem ok_any {f : Addr} {fd : FuncData} (F : Fun K "_law_any" "_law_any" sAny f fd) (T : Bl mg) (H_law_pull : Has P w K mg base "_law_pull" ["_law_urn_here", "_law_many"] 1 spPull) : FnOk P w K mg base CX0 2 f fd p_law_any spAny := by
  refine F.ok sc_law_any (fun vs H Q E h => ?_) (fun cdv A outer s H vs Q E hr h => ?_)
  · obtain ⟨u, l, xs, rfl, _⟩ := h
    rfl
  · obtain ⟨u, l, xs, rfl, hu, hl, h0, h1, q⟩ := h
    refine ⟨_, (pss_one (ps_ret (pe_ix ix_list (pv 1) (pe_has H_law_pull (hr.mono (by decide)) (by rfl) (pa_cons (pv 0) (pa_cons (pe_callB call_len_seq (by rfl) T.len PySem.boot_len (pa_cons (pv 1) pa_nil)) pa_nil))) (fun _ _ => rfl)))), ?_⟩
    refine ⟨_, rfl, _, rfl, _, rfl, l, xs, rfl, Or.inl (SqL.of hl), u, _, rfl, hu, by omega, by omega, fun r H1 r0 r1 s1 => ?_⟩
    obtain ⟨j, rfl⟩ := Int.eq_ofNat_of_zero_le r0
    have hj : j < xs.length := by omega
    exact ⟨l, xs, _, _, rfl, rfl, SqL.of (s1 _ _ hl), atI_nat (List.getElem?_eq_getElem hj), q _ H1 (List.getElem_mem hj) s1⟩
abbrev p_law_num : List Str := ["_law_urn_here", "_law_high"]
theorem sc_law_num : FnScope p_law_num p_law_num (defScope sNum) := ⟨rfl, rfl, rfl, by decide +kernel, rfl, by decide +kernel, by decide +kernel⟩
def spNum : Sp := fun vs H Q _ => ∃ (u : Addr) (m : Int), vs = [.ref u, .int m] ∧ H u = some (UrnO u) ∧ 0 ≤ m ∧ m ≤ 500000000 ∧ ∀ (r : Int) (H' : Hp), -m ≤ r → r ≤ m → Same H H' → Q (.int r) H'
theorem ok_num {f : Addr} {fd : FuncData} (F : Fun K "_law_num" "_law_num" sNum f fd) (H_law_pull : Has P w K mg base "_law_pull" ["_law_urn_here", "_law_many"] 1 spPull) : FnOk P w K mg base CX0 2 f fd p_law_num spNum := by
  refine F.ok sc_law_num (fun vs H Q E h => ?_) (fun cdv A outer s H vs Q E hr h => ?_)
  · obtain ⟨u, m, rfl, _⟩ := h
    rfl
  · obtain ⟨u, m, rfl, hu, h0, h1, q⟩ := h
    refine ⟨_, (pss_one (ps_ret (pe_op op_sub (pe_has H_law_pull (hr.mono (by decide)) (by rfl) (pa_cons (pv 0) (pa_cons (pe_op op_add (pe_op op_mul pe_int (pv 1)) pe_int) pa_nil))) (pv 1)))), ?_⟩
    refine ⟨_, rfl, _, rfl, _, _, rfl, rfl, Or.inl ⟨by decide, by decide⟩, _, _, rfl, rfl, u, _, rfl, hu, by omega, by omega, fun r H1 r0 r1 s1 => ?_⟩
    exact ⟨_, rfl, _, _, rfl, rfl, q _ H1 (by omega) (by omega) s1⟩
abbrev p_law_laps : List Str := ["_law_script"]
theorem sc_law_laps : FnScope p_law_laps p_law_laps (defScope sLaps) := ⟨rfl, rfl, rfl, by decide +kernel, rfl, by decide +kernel, by decide +kernel⟩
def spLaps (K : PySem.W.Frag) : Sp := fun vs H Q _ => ∃ (a : Addr) (xs : List V), vs = [.ref a] ∧ SqL K H a xs ∧ ∀ n : Int, 2 ≤ n → n ≤ 3 → Q (.int n) H
theorem ok_laps {f : Addr} {fd : FuncData} (F : Fun K "_law_laps" "_law_laps" sLaps f fd) (T : Bl mg) : FnOk P w K mg base CX0 1 f fd p_law_laps (spLaps K) := by
  refine F.ok sc_law_laps (fun vs H Q E h => ?_) (fun cdv A outer s H vs Q E hr h => ?_)
  · obtain ⟨a, xs, rfl, _⟩ := h
    rfl
  · obtain ⟨a, xs, rfl, hS, q⟩ := h
    refine ⟨_, (pss_one (ps_ret (pe_callB (call_max2 rfl) (by rfl) T.max PyProof.Rows.boot_max (pa_cons pe_int (pa_cons (pe_callB (call_min2 rfl) (by rfl) T.min PyProof.Rows.boot_min (pa_cons (pe_callB call_len_seq (by rfl) T.len PySem.boot_len (pa_cons (pv 0) pa_nil)) (pa_cons pe_int pa_nil))) pa_nil))))), ?_⟩
    refine ⟨_, rfl, a, xs, rfl, Or.inl hS, _, _, rfl, _, _, rfl, ?_⟩
    exact q _ (by split <;> split at * <;> omega) (by split <;> split at * <;> omega)
/-! ### what stands in the row -/
/-- the items of a row as far as they are known -/
structure Row (K : PySem.W.Frag) (H : Hp) (zs : List V) : Prop where
  few : zs.length ≤ 5
  its : ∀ y ∈ zs, It K H y
  big : ∀ i, V.int i ∈ zs → i.natAbs < 2 ^ 9000
theorem Row.same {K : PySem.W.Frag} {H H' : Hp} {zs : List V} (s : Same H H') (r : Row K H zs) : Row K H' zs := ⟨r.few, fun y hy => (r.its y hy).same s, r.big⟩
theorem big_of {i : Int} (h : i.natAbs ≤ 10 ^ 13) : i.natAbs < 2 ^ 9000 :=
  Nat.lt_of_le_of_lt h (Nat.lt_of_lt_of_le (by decide : 10 ^ 13 < 2 ^ 50) (Nat.pow_le_pow_right (by decide) (by decide)))
theorem it_int {K : PySem.W.Frag} {H : Hp} (i : Int) : It K H (.int i) := ⟨⟨.int, .base (.int i)⟩, .int i, .int i, rfl, Nat.zero_le _⟩
theorem it_bl {K : PySem.W.Frag} {H : Hp} (b : Bool) : It K H (.bl b) := ⟨⟨.bool, .base (.bl b)⟩, .bool b, .bl b, rfl, Nat.zero_le _⟩
theorem it_non {K : PySem.W.Frag} {H : Hp} : It K H .non := ⟨⟨.non, .base .non⟩, .none, .non, rfl, Nat.zero_le _⟩
theorem it_str {K : PySem.W.Frag} {H : Hp} {x : Str} (h : PyData.canLay0 (.str x) = true) : It K H (.str x) := ⟨⟨.str, .base (.str x)⟩, .str x, .str x, h, Nat.zero_le _⟩
theorem it_tup {K : PySem.W.Frag} {H : Hp} {a : Addr} {ns : List Int} (h : SqT K H a (ns.map V.int)) : It K H (.ref a) :=
  ⟨⟨.tup, tup_kd h⟩, _, dp_ints h, lay_ints ns, by show PyData.depthAll _ + 1 ≤ 8; rw [depth_ints]; decide⟩
theorem row_ints {K : PySem.W.Frag} {H : Hp} {ns : List Int} (hl : ns.length ≤ 5) (hb : ∀ n ∈ ns, n.natAbs ≤ 10 ^ 13) : Row K H (ns.map V.int) := by
  refine ⟨by simpa using hl, fun y hy => ?_, fun i hi => ?_⟩
  · obtain ⟨n, _, rfl⟩ := List.mem_map.mp hy
    exact it_int n
  · obtain ⟨n, hn, e⟩ := List.mem_map.mp hi
    cases e
    exact big_of (hb _ hn)
theorem arg_tup {K : PySem.W.Frag} {H : Hp} {a : Addr} {zs : List V} (h : SqT K H a zs) (r : Row K H zs) : Arg K H (.ref a) .tup zs :=
  ⟨tup_kd h, fun _ => ⟨a, rfl, h, Nat.le_trans r.few (by decide), r.its, r.big⟩⟩
theorem arg_of {K : PySem.W.Frag} {H : Hp} {x : V} {k : Kd} (h : OfKd K H x k) (hk : k ≠ .tup) : Arg K H x k [] := ⟨h, fun e => absurd e hk⟩
theorem ints_of {ys : List V} {m : Int} (h : ∀ (i : Nat) (y : V), ys[i]? = some y → ∃ z : Int, y = .int z ∧ -m ≤ z ∧ z ≤ m) : ∃ ns : List Int, ys = ns.map V.int ∧ ∀ n ∈ ns, -m ≤ n ∧ n ≤ m := by
  induction ys with
  | nil => exact ⟨[], rfl, fun _ h => nomatch h⟩
  | cons y r ih =>
    obtain ⟨ns, rfl, h2⟩ := ih fun i y hi => h (i + 1) y (by simpa using hi)
    obtain ⟨z, rfl, hz⟩ := h 0 y rfl
    refine ⟨z :: ns, rfl, fun n hn => ?_⟩
    rcases List.mem_cons.mp hn with rfl | hn
    · exact hz
    · exact h2 n hn
/-- an int out of a written menu -/
theorem menu {x : V} {l : List Int} {lo hi : Int} (h : x ∈ l.map V.int) (hb : ∀ i ∈ l, lo ≤ i ∧ i ≤ hi) : ∃ i, x = .int i ∧ lo ≤ i ∧ i ≤ hi := by
  obtain ⟨i, h1, rfl⟩ := List.mem_map.mp h
  exact ⟨i, rfl, hb i h1⟩
/-- behind the first test: where the row stands, what is known of its items -/
def Mid1 (K : PySem.W.Frag) (H : Hp) (u : Addr) (h kd fc : Int) (σ : L2.St) (H' : Hp) : Prop := ∃ (D : Addr) (zs : List V) (v w : Option V), σ = [some (.ref u), some (.int h), some (.ref D), some (.int kd), some (.int fc), v, w] ∧ Same H H' ∧ H D = none ∧ H' D = some (.lst zs) ∧ Row K H' zs ∧
  (kd ≠ 0 → ∃ ns : List Int, zs = ns.map V.int ∧ ∀ n ∈ ns, -1000000 ≤ n ∧ n ≤ 1000000)
def Mid2 (K : PySem.W.Frag) (H : Hp) (u : Addr) (h kd fc : Int) (σ : L2.St) (H' : Hp) : Prop := ∃ (D : Addr) (zs : List V) (v w : Option V), σ = [some (.ref u), some (.int h), some (.ref D), some (.int kd), some (.int fc), v, w] ∧ Same H H' ∧ H' D = some (.lst zs) ∧ Row K H' zs
/-! ### thing -/
abbrev n_law_thing : List Str := ["_law_urn_here", "_law_high", "_law_row", "_law_kind", "_law_factor", "_law_step", "_law_number"]
abbrev p_law_thing : List Str := ["_law_urn_here"]
theorem sc_law_thing : FnScope n_law_thing p_law_thing (defScope sThing) := ⟨rfl, rfl, rfl, by decide +kernel, rfl, by decide +kernel, by decide +kernel⟩
def spThing (K : PySem.W.Frag) : Sp := fun vs H Q _ => ∃ u : Addr, vs = [.ref u] ∧ H u = some (UrnO u) ∧ ∀ (x : V) (k : Kd) (xs : List V) (H' : Hp), Same H H' → Arg K H' x k xs → Q x H'
theorem ok_thing {f : Addr} {fd : FuncData} (F : Fun K "_law_thing" "_law_thing" sThing f fd) (T : Bl mg) (H_law_pull : Has P w K mg base "_law_pull" ["_law_urn_here", "_law_many"] 1 spPull) (H_law_any : Has P w K mg base "_law_any" p_law_any 2 spAny) (H_law_num : Has P w K mg base "_law_num" p_law_num 2 spNum) :
    FnOk P w K mg base CX0 3 f fd p_law_thing (spThing K) := by
  refine F.ok sc_law_thing (fun vs H Q E h => ?_) (fun cdv A outer s H vs Q E hr h => ?_)
  · obtain ⟨u, rfl, _⟩ := h
    rfl
  · obtain ⟨u, rfl, hu0, q⟩ := h
    have hu : (A.deeper (PyProof.Rows.envOfC "_law_thing" (defScope sThing) s.heap.objs.size f cdv)).units + 64 < cLine := hr.units
    refine ⟨_, (pss_cons (ps_set (i := 1) sc_law_thing.nd rfl (Or.inr rfl) (pe_has H_law_any (hr.mono (by decide)) (by rfl) (pa_cons (pv 0) (pa_cons (pe_lst (pa_cons pe_int (pa_cons pe_int (pa_cons pe_int (pa_cons pe_int (pa_cons (pe_op op_pow pe_int pe_int) pa_nil)))))) pa_nil))))
      (pss_cons (ps_setLc (i := 2) (own := [("_law_step", 5)]) (g := gName 5) (tt := tYes) rfl sc_law_thing.nd rfl rfl (sw_true rfl rfl rfl (by decide +kernel)) (pi_range1 (by rfl) T.range (pa_cons (pe_has H_law_any (hr.mono (by decide)) (by rfl) (pa_cons (pv 0) (pa_cons (pe_lst (pa_cons pe_int (pa_cons pe_int (pa_cons pe_int (pa_cons pe_int (pa_cons pe_int (pa_cons pe_int (pa_cons pe_int (pa_cons pe_int (pa_cons pe_int (pa_cons pe_int pa_nil))))))))))) pa_nil))) pa_nil)) (blkOk_by (N := n_law_thing) (sc := defScope sThing) (by decide +kernel)) (fun _ _ _ _ _ => pg_name (i := 5) sc_law_thing.nd rfl (Or.inl rfl)) (fun _ _ _ _ _ => pts_nil) (fun _ _ _ _ _ => (pe_has H_law_num (hr.mono (by decide)) (by rfl) (pa_cons (pv 0) (pa_cons (pv 1) pa_nil)))))
      (pss_cons (ps_asg (pe_tup (pa_cons (pe_has H_law_pull (hr.mono (by decide)) (by rfl) (pa_cons (pv 0) (pa_cons pe_int pa_nil))) (pa_cons (pe_has H_law_any (hr.mono (by decide)) (by rfl) (pa_cons (pv 0) (pa_cons (pe_lst (pa_cons pe_int (pa_cons pe_int (pa_cons (pe_un un_neg pe_int) pa_nil)))) pa_nil))) pa_nil))) (pg_tup rfl (pgs_cons (pg_name (i := 3) sc_law_thing.nd rfl (Or.inl rfl)) (pgs_cons (pg_name (i := 4) sc_law_thing.nd rfl (Or.inr rfl)) pgs_nil))))
      (pss_mid (ps_if ((pw_and (pt_cmpR op_eq (pv 3) pe_int (nomark _)) (pw_and1 (pt_cmpR (op_neD hu) (pv 2) (pe_lst pa_nil) (nomark _))))).pt (pss_one (ps_asg (pe_has H_law_any (hr.mono (by decide)) (by rfl) (pa_cons (pv 0) (pa_cons (pe_lst (pa_cons pe_bl (pa_cons pe_non (pa_cons pe_str (pa_cons (pe_tup (pa_cons pe_int pa_nil)) (pa_cons (pe_op op_pow pe_int pe_int) (pa_cons (pe_un un_neg (pe_op op_pow pe_int pe_int)) pa_nil))))))) pa_nil))) (pg_sub (pv 2) (pe_has H_law_pull (hr.mono (by decide)) (by rfl) (pa_cons (pv 0) (pa_cons (pe_callB call_len_seq (by rfl) T.len PySem.boot_len (pa_cons (pv 2) pa_nil)) pa_nil))) set_list (fun _ => rfl)))) pss_nil)
      (pss_mid (ps_if (pt_cmpR op_eq (pv 3) pe_int (nomark _)) (pss_one (ps_setLc (i := 2) (own := [("_law_number", 6)]) (g := gName 6) (tt := tYes) rfl sc_law_thing.nd rfl rfl (sw_true rfl rfl rfl (by decide +kernel)) (pi_list (pv 2)) (blkOk_by (N := n_law_thing) (sc := defScope sThing) (by decide +kernel)) (fun _ _ _ _ _ => pg_name (i := 6) sc_law_thing.nd rfl (Or.inl rfl)) (fun _ _ _ _ _ => pts_nil) (fun _ _ _ _ _ => (pe_op op_mulW (pv 6) (pv 4))))) pss_nil)
      (pss_cons (ps_if (pt_cmpR op_eq (pv 3) pe_int (nomark _)) (pss_one (ps_ret (pe_has H_law_any (hr.mono (by decide)) (by rfl) (pa_cons (pv 0) (pa_cons (pe_lst (pa_cons pe_non (pa_cons pe_bl (pa_cons pe_int (pa_cons pe_int (pa_cons pe_str (pa_cons pe_str (pa_cons pe_str (pa_cons pe_dnewK (pa_cons (pe_tup pa_nil) (pa_cons (pe_lst (pa_cons pe_int (pa_cons pe_int pa_nil))) (pa_cons (pe_lst (pa_cons pe_int (pa_cons pe_int (pa_cons pe_int pa_nil)))) (pa_cons (pe_tup (pa_cons (pe_tup (pa_cons pe_int (pa_cons pe_int pa_nil))) pa_nil)) (pa_cons (pe_tup (pa_cons (pe_tup (pa_cons pe_int (pa_cons pe_int pa_nil))) (pa_cons (pe_tup (pa_cons pe_int (pa_cons pe_int pa_nil))) pa_nil))) pa_nil)))))))))))))) pa_nil))))) pss_nil)
      (pss_one (ps_ret (pe_ifExp (pt_cmpR op_eq (pv 3) pe_int (nomark _)) (pv 2) (pe_callTy call_tuple_of (by rfl) T.tuple PyProof.Rows.boot_tuple (pa_cons (pv 2) pa_nil))))))))))), ?_⟩
    -- high
    refine ⟨_, rfl, _, _, rfl, rfl, ⟨by decide, by decide, by decide⟩, by show 5 ≤ sizeLine; decide, fun l hl => ⟨u, l, _, rfl, same_new hl _ _ hu0, upd_same, by decide, by decide, fun x H1 hx s1 => ?_⟩⟩
    obtain ⟨h, rfl, h0, h1⟩ := menu (l := [1, 2, 6, 100, 1000000]) (lo := 1) (hi := 1000000) hx (by decide)
    have s01 : Same H H1 := (same_new hl).trans s1
    -- row
    dsimp only
    refine seq_of (asg_of ?_)
    refine lcRn (fun n => 0 ≤ n ∧ n ≤ 5) (fun n i y => ∃ z : Int, y = .int z ∧ -h ≤ z ∧ z ≤ h) (fun R r => ?_) (fun n hn => ⟨hn.1, by omega⟩) (fun x => rfl) (fun n i H3 hn hi sm Q' q' => ?_) (fun n D ys H2 hn hD s2 hy e1 e2 => ?_)
    · refine ⟨_, rfl, by show 10 ≤ sizeLine; decide, fun l hl => ⟨u, l, _, rfl, same_new hl _ _ (s01 _ _ hu0), upd_same, by decide, by decide, fun x H1 hx s1 => ?_⟩⟩
      obtain ⟨n, rfl, n0, n1⟩ := menu (l := [2, 2, 2, 3, 3, 3, 0, 1, 4, 5]) (lo := 0) (hi := 5) hx (by decide)
      exact r n H1 ⟨n0, n1⟩ ((same_new hl).trans s1)
    · exact ⟨_, rfl, _, rfl, u, h, rfl, sm _ _ (s01 _ _ hu0), by omega, by omega, fun r H4 r0 r1 s4 => q' _ _ ⟨r, rfl, r0, r1⟩ s4⟩
    obtain ⟨ns, rfl, hns⟩ := ints_of e2
    rw [List.length_map] at e1
    have hns' : ∀ n ∈ ns, -1000000 ≤ n ∧ n ≤ 1000000 := fun n hn => by have := hns n hn; omega
    have s02 := s01.trans s2
    have hDH : H D = none := s01.free hD
    -- kind, factor
    dsimp only
    refine seq_of (asg_of ?_)
    refine ⟨_, rfl, u, 8, rfl, s02 _ _ hu0, by decide, by decide, fun kd H3 k0 k1 s3 => ?_⟩
    have s03 := s02.trans s3
    refine ⟨_, rfl, _, rfl, by show 3 ≤ sizeLine; decide, fun l hl => ⟨u, l, _, rfl, same_new hl _ _ (s03 _ _ hu0), upd_same, by decide, by decide, fun x H4 hx s4 => ?_⟩⟩
    obtain ⟨fc, rfl, f0, f1⟩ := menu (l := [2, 3, -1]) (lo := -1) (hi := 3) hx (by decide)
    have s34 := (same_new hl).trans s4
    refine ⟨by show 2 ≤ sizeLine; decide, fun p hp => ⟨p, _, rfl, SqT.of upd_same, rfl, _, _, rfl, _, _, rfl, rfl, ?_⟩⟩
    have s25 := (s3.trans s34).trans (same_new (p := p) (o := HO.tup [V.int kd, V.int fc]) hp)
    have s05 := s02.trans s25
    have hD5 := s25 _ _ hy
    generalize upd H4 p (HO.tup [V.int kd, V.int fc]) = H5 at s25 s05 hD5 ⊢
    have hr5 : Row K H5 (ns.map V.int) := row_ints (by omega) fun n hn => by have := hns' n hn; omega
    -- if kind == 0 and row
    refine ⟨Mid1 K H u h kd fc, ?_, ?_⟩
    · have keep : ∀ H6, Same H5 H6 → Mid1 K H u h kd fc [some (.ref u), some (.int h), some (.ref D), some (.int kd), some (.int fc), none, none] H6 := fun H6 s6 =>
        ⟨D, _, none, none, rfl, s05.trans s6, hDH, s6 _ _ hD5, hr5.same s6, fun _ => ⟨ns, rfl, hns'⟩⟩
      refine ⟨_, rfl,
            rfl, _, rfl, ?_⟩
      refine ite2 (fun c => ?_) (fun c => iteF (keep H5 (Same.refl _)))
      have k0 : kd = 0 := V.int.inj (of_decide_eq_true c)
      refine ⟨_, rfl, by show 0 ≤ sizeLine; decide, fun p hp => ?_⟩
      have s6 := same_new (p := p) (o := HO.lst []) hp
      refine ⟨.list (ns.map PyData.int), .list [], .lst (SqL.of (s6 _ _ hD5)) (dpAll_ints ns), .lst (SqL.of upd_same) .nil, ?_, by decide +kernel, _, rfl, ?_⟩
      · unfold SeqAt.shaped
        show (PyData.canLayAll0 _ && decide (PyData.depthAll _ + 1 ≤ 64)) = true
        rw [lay_ints, depth_ints]
        rfl
      refine ite2 (fun c2 => ?_) (fun c2 => keep _ s6)
      have hpos : 0 < ns.length := by
        cases ns with
        | nil => exact absurd c2 (by decide)
        | cons n r => simp
      generalize upd H5 p (HO.lst []) = H6 at s6 ⊢
      have s06 := s05.trans s6
      -- row[..] = ..
      refine ⟨_, rfl, by show 1 ≤ sizeLine; decide, fun p2 hp2 => ⟨_, _, rfl, rfl, ⟨by decide, by decide, by decide⟩, _, _, rfl, rfl, ⟨by decide, by decide, by decide⟩, _, rfl, by show 6 ≤ sizeLine; decide, fun l hl => ?_⟩⟩
      have s7 := (same_new (p := p2) (o := HO.tup [V.int 1]) hp2).trans (same_new (p := l) (o := HO.lst [V.bl true, .non, .str "1", .ref p2, .int (10 ^ 12), .int (-10 ^ 12)]) hl)
      refine ⟨u, l, _, rfl, s7 _ _ (s06 _ _ hu0), upd_same, by show 0 < 6; decide, by show 6 ≤ 1000; decide, fun x H7 hx s8 => ?_⟩
      have s67 := s7.trans s8
      have hp7 : H7 p2 = some (.tup [V.int 1]) := s8 _ _ (same_new hl _ _ upd_same)
      have hx7 : It K H7 x ∧ ∀ i, V.int i = x → i.natAbs ≤ 10 ^ 13 := by
        simp only [List.mem_cons,
              List.not_mem_nil, or_false] at hx
        rcases hx with rfl | rfl | rfl | rfl | rfl | rfl
        · exact ⟨it_bl true, fun i e => by cases e⟩
        · exact ⟨it_non, fun i e => by cases e⟩
        · exact ⟨it_str (by decide +kernel), fun i e => by cases e⟩
        · exact ⟨it_tup (ns := [1]) (SqT.of hp7), fun i e => by cases e⟩
        · exact ⟨it_int _, fun i e => by cases e; decide⟩
        · exact ⟨it_int _, fun i e => by cases e; decide⟩
      have hD7 := s67 _ _ (s6 _ _ hD5)
      have s07 := s06.trans s67
      refine ⟨_, rfl, _, rfl, _, rfl, D, _, rfl, Or.inl (SqL.of hD7), u, _, rfl, s07 _ _ hu0, by rw [List.length_map]; omega, by rw [List.length_map]; omega, fun r H8 r0 r1 s8' => ?_⟩
      obtain ⟨j, rfl⟩ := Int.eq_ofNat_of_zero_le r0
      have hj : j < (ns.map V.int).length := by omega
      refine ⟨D, _, _, j, rfl, rfl, s8' _ _ hD7, ixN_nat hj, ?_⟩
      have s08 := s07.trans s8'
      have sEnd : Same H (upd H8 D (.lst ((ns.map V.int).set j x))) := same_own s08 hDH
      have sIts : ∀ {a : Addr} {ys : List V}, SqT K H8 a ys → SqT K (upd H8 D (.lst ((ns.map V.int).set j x))) a ys := fun {a ys} h => by
        have ne : ∀ o, H8 a = some o → (∀ zs, o ≠ .lst zs) → upd H8 D (.lst ((ns.map V.int).set j x)) a = some o := fun o e hn => by
          rw [upd_ne (fun z => by rw [z, s8' _ _ hD7] at e; cases e; exact hn _ rfl)]
          exact e
        rcases h with (h
              | ⟨o, h⟩) | h
        · exact Or.inl (Or.inl (ne _ h fun _ z => nomatch z))
        · exact Or.inl (Or.inr ⟨o, ne _ h fun _ z => nomatch z⟩)
        · exact Or.inr h
      refine ⟨D, _, none, none, rfl, sEnd, hDH, upd_same, ⟨by rw [List.length_set, List.length_map]; omega, fun y hy => ?_, fun i hi => ?_⟩, fun z => absurd k0 z⟩
      · rcases List.mem_or_eq_of_mem_set hy with hy | rfl
        · obtain ⟨n, _, rfl⟩ := List.mem_map.mp hy
          exact it_int n
        · simp only [List.mem_cons, List.not_mem_nil, or_false] at hx
          rcases hx with rfl | rfl | rfl | rfl | rfl | rfl
          · exact it_bl true
          · exact it_non
          · exact it_str (by decide +kernel)
          · exact it_tup (ns := [1]) (sIts (SqT.of (s8' _ _ hp7)))
          · exact it_int _
          · exact it_int _
      · rcases List.mem_or_eq_of_mem_set hi with hy | e
        · obtain ⟨n, hn, e⟩ := List.mem_map.mp hy
          cases e
          exact big_of (by have := hns' i hn; omega)
        · exact big_of (hx7.2 i e)
    rintro σ6 H6 ⟨D6, zs, v, w', rfl, s06, hD6, hy6, r6, ri⟩
    refine ⟨Mid2 K H u h kd fc, ?_, ?_⟩
    · refine ⟨_, rfl, rfl, _, rfl, ?_⟩
      refine ite2 (fun c => ?_) (fun c => ⟨D6, zs, _, _, rfl, s06, hy6, r6⟩)
      have k1 : kd = 1 := V.int.inj (of_decide_eq_true c)
      obtain ⟨ms, rfl, hms⟩ := ri (by omega)
      refine asg_of ?_
      refine lcL (K := K) (a := D6) (xs := ms.map V.int) (fun i y => ∃ z : Int, y = .int z ∧ -10000000 ≤ z ∧ z ≤ 10000000) (fun R r => ⟨_, rfl, r⟩) (SqL.of hy6) (by have := r6.few; omega) (fun x => rfl) (fun i z H3 hi _ Q' q' => ?_) (fun D ys H7 hD sm hy e1 e2 => ?_)
      · obtain ⟨n, hn, rfl⟩ := map_at hi
        have hb := hms n (List.mem_of_getElem? hn)
        refine ⟨_, rfl, _, rfl, _, _, rfl, rfl, ?_, q' _ _ ⟨n * fc, rfl, ?_, ?_⟩ (Same.refl _)⟩
        · exact wide_mul (a := 30) (b := 10) (by omega) (by omega) (by decide) (by decide) (by decide)
        · have f3 : fc = -1 ∨ fc = 0 ∨ fc = 1 ∨ fc = 2 ∨ fc = 3 := by omega
          rcases f3 with rfl | rfl | rfl | rfl | rfl <;> omega
        · have f3 : fc = -1 ∨ fc = 0 ∨ fc = 1 ∨ fc = 2 ∨ fc = 3 := by omega
          rcases f3 with rfl | rfl | rfl | rfl | rfl <;> omega
      · obtain ⟨ns2, rfl, hn2⟩ := ints_of e2
        have l6 := r6.few
        rw [List.length_map] at l6
        rw [List.length_map,
              List.length_map] at e1
        exact ⟨D, _, _, _, rfl, s06.trans sm, hy, row_ints (by omega) fun n hn => by have := hn2 n hn; omega⟩
    rintro σ7 H7 ⟨D7, zs7, v7, w7, rfl, s07, hy7, r7⟩
    -- kind == 2
    refine ⟨_, rfl,
          rfl, _, rfl, ?_⟩
    refine ite2 (fun c
          => ?_) (fun c => ?_)
    · refine ⟨_, rfl, fun d hd => ⟨by show 0 ≤ sizeLine; decide, fun p0 hp0 => ?_⟩⟩
      have e1 := same_new (p := d) (o := HO.dK []) hd
      have e2 := same_new (p := p0) (o := HO.tup []) hp0
      have ad : (upd (upd H7 d (.dK [])) p0 (.tup [])) d = some (.dK []) := e2 _ _ upd_same
      have ap0 : (upd (upd H7 d (.dK [])) p0 (.tup [])) p0 = some (.tup []) := upd_same
      have s2 := e1.trans e2
      generalize upd (upd H7 d (.dK [])) p0 (.tup []) = G2 at s2 ad ap0 ⊢
      refine ⟨by show 2 ≤ sizeLine; decide, fun l1 hl1 => ⟨by show 3 ≤ sizeLine; decide, fun l2 hl2 => ?_⟩⟩
      have e3 := same_new (p := l1) (o := HO.lst [V.int 1, .int 2]) hl1
      have e4 := same_new (p := l2) (o := HO.lst [V.int 1, .int 2, .int 3]) hl2
      have al1 := e4 _ _ (upd_same : (upd G2 l1 (HO.lst [V.int 1, .int 2])) l1 = _)
      have al2 : (upd (upd G2 l1 (.lst [V.int 1, .int 2])) l2 (.lst [V.int 1, .int 2, .int 3])) l2 = _ := upd_same
      have s4 := e3.trans e4
      generalize upd (upd G2 l1 (.lst [V.int 1, .int 2])) l2 (.lst [V.int 1, .int 2, .int 3]) = G4 at s4 al1 al2 ⊢
      refine ⟨by show 2 ≤ sizeLine; decide, fun p1 hp1 => ⟨by show 1 ≤ sizeLine; decide, fun p2 hp2 => ?_⟩⟩
      have e5 := same_new (p := p1) (o := HO.tup [V.int 1, .int 2]) hp1
      have e6 := same_new (p := p2) (o := HO.tup [V.ref p1]) hp2
      have ap1 := e6 _ _ (upd_same : (upd G4 p1 (HO.tup [V.int 1, .int 2])) p1 = _)
      have ap2 : (upd (upd G4 p1 (.tup [V.int 1, .int 2])) p2 (.tup [V.ref p1])) p2 = _ := upd_same
      have s6 := e5.trans e6
      generalize upd (upd G4 p1 (.tup [V.int 1, .int 2])) p2 (.tup [V.ref p1]) = G6 at s6 ap1 ap2 ⊢
      refine ⟨by show 2 ≤ sizeLine; decide, fun p3 hp3 => ⟨by show 2 ≤ sizeLine; decide, fun p4 hp4 => ⟨by show 2 ≤ sizeLine; decide, fun p5 hp5 => ?_⟩⟩⟩
      have e7 := same_new (p := p3) (o := HO.tup [V.int 0, .int 1]) hp3
      have e8 := same_new (p := p4) (o := HO.tup [V.int 1, .int 1]) hp4
      have e9 := same_new (p := p5) (o := HO.tup [V.ref p3, .ref p4]) hp5
      have ap3 := e9 _ _ (e8 _ _ (upd_same : (upd G6 p3 (HO.tup [V.int 0, .int 1])) p3 = _))
      have ap4 := e9 _ _ (upd_same : (upd (upd G6 p3 (HO.tup [V.int 0, .int 1])) p4 (.tup [V.int 1, .int 1])) p4 = _)
      have ap5 : (upd (upd (upd G6 p3 (.tup [V.int 0, .int 1])) p4 (.tup [V.int 1, .int 1])) p5 (.tup [V.ref p3, .ref p4])) p5 = _ := upd_same
      have s9 := (e7.trans e8).trans e9
      generalize upd (upd (upd G6 p3 (.tup [V.int 0, .int 1])) p4 (.tup [V.int 1, .int 1])) p5 (.tup [V.ref p3, .ref p4]) = G9 at s9 ap3 ap4 ap5 ⊢
      refine ⟨by show 13 ≤ sizeLine; decide, fun l hl => ?_⟩
      have e10 := same_new (p := l) (o := HO.lst [V.non, .bl true, .int 0, .int 7, .str "", .str "12", .str "123", .ref d, .ref p0, .ref l1, .ref l2, .ref p2, .ref p5]) hl
      have s24 := s2.trans s4
      have s26 := s24.trans s6
      have s29 := s26.trans s9
      refine ⟨u, l, _, rfl, e10 _ _ (s29 _ _ (s07 _ _ hu0)), upd_same, by show 0 < 13; decide, by show 13 ≤ 1000; decide, fun x H8 hx s8 => ?_⟩
      have t9 := e10.trans s8
      have t6 := s9.trans t9
      have t4 := s6.trans t6
      have t2 := s4.trans t4
      have sE := s07.trans (s29.trans t9)
      simp only [List.mem_cons,
            List.not_mem_nil, or_false] at hx
      rcases hx with rfl | rfl | rfl | rfl | rfl | rfl | rfl | rfl | rfl | rfl | rfl | rfl | rfl
      · exact q _ .non [] _ sE (arg_of (.base .non) (by decide))
      · exact q _ .bool [] _ sE (arg_of (.base (.bl _)) (by decide))
      · exact q _ .int [] _ sE (arg_of (.base (.int _)) (by decide))
      · exact q _ .int [] _ sE (arg_of (.base (.int _)) (by decide))
      · exact q _ .str [] _ sE (arg_of (.base (.str _)) (by decide))
      · exact q _ .str [] _ sE (arg_of (.base (.str _)) (by decide))
      · exact q _ .str [] _ sE (arg_of (.base (.str _)) (by decide))
      · exact q _ .dic [] _ sE (arg_of (.base (.dK (t2 _ _ ad))) (by decide))
      · exact q _ .tup [] _ sE (arg_tup (SqT.of (t2 _ _ ap0)) ⟨by decide, (fun _ h => nomatch h), (fun _ h => nomatch h)⟩)
      · exact q _ .lst [] _ sE (arg_of (.base (.lst (t4 _ _ al1))) (by decide))
      · exact q _ .lst [] _ sE (arg_of (.base (.lst (t4 _ _ al2))) (by decide))
      · refine q _ .tup [V.ref p1] _ sE (arg_tup (SqT.of (t6 _ _ ap2)) ⟨by show 1 ≤ 5; decide, fun y hy => ?_, fun i hi => ?_⟩)
        · rw [List.mem_singleton] at hy
          subst hy
          exact it_tup (ns := [1, 2]) (SqT.of (t6 _ _ ap1))
        · rw [List.mem_singleton] at hi
          cases hi
      · refine q _ .tup [V.ref p3, .ref p4] _ sE (arg_tup (SqT.of (t9 _ _ ap5)) ⟨by show 2 ≤ 5; decide, fun y hy => ?_, fun i hi => ?_⟩)
        · simp only [List.mem_cons, List.not_mem_nil, or_false] at hy
          rcases hy with rfl | rfl
          · exact it_tup (ns := [0, 1]) (SqT.of (t9 _ _ ap3))
          · exact it_tup (ns := [1, 1]) (SqT.of (t9 _ _ ap4))
        · simp only [List.mem_cons, List.not_mem_nil, or_false] at hi
          rcases hi with e | e <;> cases e
    · refine ⟨_, rfl, rfl, _, rfl, ?_⟩
      refine ite2 (fun c
            => ?_) (fun c => ?_)
      · refine ⟨_, rfl, q _ .lst [] _ s07 (arg_of (.base (.lst hy7)) (by decide))⟩
      · refine ⟨_, rfl, D7, zs7, rfl, Or.inl ⟨SqL.of hy7, fun p hp => ?_⟩⟩
        have sp := same_new (p := p) (o := HO.tup zs7) hp
        exact q _ .tup zs7 _ (s07.trans sp) (arg_tup (SqT.of upd_same) (r7.same sp))
end
end K2

namespace K2
open PySem L2 Ur
section
variable {P : Program} {w : World} {K :
      PySem.W.Frag} {mg : Str → Option Value} {base : Heap}
abbrev n_law_right : List Str := ["_law_urn_here", "_law_step", "_law_thing_here", "_law_due"]
abbrev p_law_right : List Str := ["_law_urn_here"]
theorem sc_law_right : FnScope n_law_right p_law_right (defScope sRight) := ⟨rfl, rfl, rfl, by decide +kernel, rfl, by decide +kernel, by decide +kernel⟩
def spRight : Sp := fun vs H Q _ => ∃ u : Addr, vs = [.ref u] ∧ H u = some (UrnO u) ∧ ∀ H' : Hp, Same H H' → Q (.bl true) H'
theorem bools_fit (a b c : Bool) : (PyData.shown (.list [.bool a, .bool b, .bool c])).length ≤ sizeLine := by
  cases a <;> cases b <;> cases c <;> decide +kernel
theorem bools_dp {K : PySem.W.Frag} {H : Hp} {p : Addr} {a b c : Bool} (h : H p = some (.lst [.bl a, .bl b, .bl c])) : Dp K H (.ref p) (.list [.bool a, .bool b, .bool c]) :=
  .lst (SqL.of h) (.cons (.bl a) (.cons (.bl b) (.cons (.bl c) .nil)))
theorem ok_right {f : Addr} {fd : FuncData} (F : Fun K "_law_right" "_law_right" sRight f fd) (T : Bl mg) (H_law_thing : Has P w K mg base "_law_thing" p_law_thing 3 (spThing K))
    (H_law_is_frac : Has P w K mg base "_law_is_frac" n_lthing 3 (spTold K isFr)) (H_law_is_spot : Has P w K mg base "_law_is_spot" n_lthing 3 (spTold K isPt)) (H_law_is_aim : Has P w K mg base "_law_is_aim" n_lthing 3 (spTold K isDr))
    (H_is_fraction : Has P w K mg base "is_fraction" n_value 4 (spTold K isFr)) (H_is_point : Has P w K mg base "is_point" n_value 4 (spTold K isPt)) (H_is_direction : Has P w K mg base "is_direction" n_value 4 (spTold K isDr))
    (HK_is_fraction : HasK P w K mg base "is_fraction" n_value 4 (spTold K isFr)) (HK_is_point : HasK P w K mg base "is_point" n_value 4 (spTold K isPt)) (HK_is_direction : HasK P w K mg base "is_direction" n_value 4 (spTold K isDr)) :
    FnG P w K mg base CX0 5 f fd p_law_right spRight := by
  refine okG F sc_law_right (fun vs H Q E h => ?_) (fun cdv A outer s H vs Q E hg hr h => ?_)
  · obtain ⟨u, rfl, _⟩ := h
    rfl
  · obtain ⟨u, rfl, hu0, q⟩ := h
    have hu : (A.deeper (PyProof.Rows.envOfC "_law_right" (defScope sRight) s.heap.objs.size f cdv)).units + 64 < cLine := hr.units
    refine ⟨_, (pss_cons (ps_for PassesOwn.never rfl (pi_range1 (by rfl) T.range (pa_cons pe_int pa_nil)) (pg_name (i := 1) sc_law_right.nd rfl (Or.inl rfl)) (pss_cons (ps_set (i := 2) sc_law_right.nd rfl (Or.inl rfl) (pe_has H_law_thing (hr.mono (by decide)) (by rfl) (pa_cons (pv 0) pa_nil)))
      (pss_cons (ps_set (i := 3) sc_law_right.nd rfl (Or.inl rfl) (pe_lst (pa_cons (pe_has H_law_is_frac (hr.mono (by decide)) (by rfl) (pa_cons (pv 2) pa_nil)) (pa_cons (pe_has H_law_is_spot (hr.mono (by decide)) (by rfl) (pa_cons (pv 2) pa_nil)) (pa_cons (pe_has H_law_is_aim (hr.mono (by decide)) (by rfl) (pa_cons (pv 2) pa_nil)) pa_nil)))))
      (pss_cons (ps_if (pt_cmpR op_ne (pe_callB (call_repr hg hu) (by rfl) T.repr PyProof.Rows.boot_repr (pa_cons (pe_lst (pa_cons (pe_has H_is_fraction (hr.mono (by decide)) (by rfl) (pa_cons (pv 2) pa_nil)) (pa_cons (pe_has H_is_point (hr.mono (by decide)) (by rfl) (pa_cons (pv 2) pa_nil)) (pa_cons (pe_has H_is_direction (hr.mono (by decide)) (by rfl) (pa_cons (pv 2) pa_nil)) pa_nil)))) pa_nil)) (pe_callB (call_repr hg hu) (by rfl) T.repr PyProof.Rows.boot_repr (pa_cons (pv 3) pa_nil)) (nomark _)) (pss_one (ps_ret pe_bl)) pss_nil)
      (pss_one (ps_if (pt_cmpR op_ne (pe_callB (call_repr hg hu) (by rfl) T.repr PyProof.Rows.boot_repr (pa_cons (pe_lst (pa_cons (pe_hasK0 HK_is_fraction (hr.mono (by decide)) (by rfl) (pk_cons (pv 2) pk_nil)) (pa_cons (pe_hasK0 HK_is_point (hr.mono (by decide)) (by rfl) (pk_cons (pv 2) pk_nil)) (pa_cons (pe_hasK0 HK_is_direction (hr.mono (by decide)) (by rfl) (pk_cons (pv 2) pk_nil)) pa_nil)))) pa_nil)) (pe_callB (call_repr hg hu) (by rfl) T.repr PyProof.Rows.boot_repr (pa_cons (pv 3) pa_nil)) (nomark _)) (pss_one (ps_ret pe_bl)) pss_nil))))))
      (pss_one (ps_ret
            pe_bl))), ?_⟩
    refine ⟨12, rfl, by decide, by decide, for_range (lo := 0) (n := 12) (fun i σ H' => ∃ v w z : Option V, σ = [some (.ref u), v, w, z] ∧ Same H H') ⟨none, none, none, rfl, Same.refl _⟩ ?_ ?_⟩
    · rintro i σ H0 hi ⟨v, w', z, rfl, s0⟩
      refine ⟨_, rfl, u, rfl, s0 _ _ hu0, fun x k xs H1 s1 A1 => ?_⟩
      refine ⟨_, rfl, x, k, xs, rfl, A1, fun H2 s2 => ⟨_, rfl, x, k, xs, rfl, A1.same s2, fun H3 s3 => ⟨_, rfl, x, k, xs, rfl, (A1.same s2).same s3, fun H4 s4 => ⟨by show 3 ≤ sizeLine; decide, fun p hp => ?_⟩⟩⟩⟩
      have A4 := ((A1.same s2).same s3).same s4
      have s14 := s1.trans ((s2.trans s3).trans s4)
      generalize hfr : (k == Kd.tup && isFr xs) = fr
      generalize hpt : (k == Kd.tup && isPt xs) = pt
      generalize hdr : (k == Kd.tup && isDr xs) = dr
      have e5 := same_new (p := p) (o := HO.lst [.bl fr, .bl pt, .bl dr]) hp
      have a5 : (upd H4 p (.lst [.bl fr, .bl pt, .bl dr])) p = _ := upd_same
      have A5 := A4.same e5
      have s05 := s0.trans (s14.trans e5)
      generalize upd H4 p (.lst [.bl fr, .bl pt, .bl dr]) = H5 at e5 a5 A5 s05 ⊢
      -- by position
      refine ⟨_, rfl, x, k, xs, rfl, A5, fun H6 s6 => ⟨_, rfl, x, k, xs, rfl, A5.same s6, fun H7 s7 => ⟨_, rfl, x, k, xs, rfl, (A5.same s6).same s7, fun H8 s8 => ⟨by show 3 ≤ sizeLine; decide, fun p2 hp2 => ?_⟩⟩⟩⟩
      have A8 := ((A5.same s6).same s7).same s8
      rw [hfr, hpt, hdr]
      have e9 := same_new (p := p2) (o := HO.lst [.bl fr, .bl pt, .bl dr]) hp2
      have a9 : (upd H8 p2 (.lst [.bl fr, .bl pt, .bl dr])) p2 = _ := upd_same
      have A9 := A8.same e9
      have s59 := ((s6.trans s7).trans s8).trans e9
      generalize upd H8 p2 (.lst [.bl fr, .bl pt, .bl dr]) = H9 at e9 a9 A9 s59 ⊢
      refine ⟨p2, _, rfl, bools_dp a9, rfl, rfl, bools_fit _ _ _, by show 1 ≤ 60; decide, _, rfl, p, _, rfl, bools_dp (s59 _ _ a5), rfl, rfl, bools_fit _ _ _, by show 1 ≤ 60; decide, rfl, _, rfl, ?_⟩
      refine iteNS rfl ?_
      -- by name
      refine ⟨_, rfl, x, k, xs, rfl, A9, fun H10 s10 => ⟨_, rfl, x, k, xs, rfl, A9.same s10, fun H11 s11 => ⟨_, rfl, x, k, xs, rfl, (A9.same s10).same s11, fun H12 s12 => ⟨by show 3 ≤ sizeLine; decide, fun p3 hp3 => ?_⟩⟩⟩⟩
      rw [hfr, hpt, hdr]
      have e13 := same_new (p := p3) (o := HO.lst [.bl fr, .bl pt, .bl dr]) hp3
      have a13 : (upd H12 p3 (.lst [.bl fr, .bl pt, .bl dr])) p3 = _ := upd_same
      have s913 := ((s10.trans s11).trans s12).trans e13
      generalize upd H12 p3 (.lst [.bl fr, .bl pt, .bl dr]) = H13 at e13 a13 s913 ⊢
      refine ⟨p3, _, rfl, bools_dp a13, rfl, rfl, bools_fit _ _ _, by show 1 ≤ 60; decide, _, rfl, p, _, rfl, bools_dp (s913 _ _ (s59 _ _ a5)), rfl, rfl, bools_fit _ _ _, by show 1 ≤ 60; decide, rfl, _, rfl, ?_⟩
      refine iteNS rfl ?_
      exact ⟨_, _, _, rfl, s05.trans (s59.trans s913)⟩
    · rintro σ H' ⟨v, w', z, rfl, s0⟩
      exact q H' s0
abbrev n_law : List Str := ["_law_script", "_law_lap"]
abbrev p_law : List Str := ["_law_script"]
theorem sc_law : FnScope n_law p_law (defScope sLaw) := ⟨rfl, rfl, rfl, by decide +kernel, rfl, by decide +kernel, by decide +kernel⟩
def spLaw (K : PySem.W.Frag) : Sp := fun vs H Q _ => ∃ (a : Addr) (ns : List Int), vs = [.ref a] ∧ SqL K H a (ns.map V.int) ∧ ∀ H' : Hp, Q (.bl true) H'
theorem ok_law {f : Addr} {fd : FuncData} (F : Fun K "law" "law" sLaw f fd) (T : Bl mg) (H_law_laps : Has P w K mg base "_law_laps" p_law_laps 1 (spLaps K)) (H_law_urn : Has P w K mg base "_law_urn" p_law_urn 1 (spUrn K))
    (HG_law_right : HasG P w K mg base "_law_right" p_law_right 5 spRight) : FnG P w K mg base CX0 6 f fd p_law (spLaw K) := by
  refine okG F sc_law (fun vs H Q E h => ?_) (fun cdv A outer s H vs Q E hg hr h => ?_)
  · obtain ⟨a, ns, rfl, _⟩ := h
    rfl
  · obtain ⟨a, ns, rfl, hS, q⟩ := h
    refine ⟨_, (pss_cons (ps_for PassesOwn.never rfl (pi_range1 (by rfl) T.range (pa_cons (pe_has H_law_laps (hr.mono (by decide)) (by rfl) (pa_cons (pv 0) pa_nil)) pa_nil)) (pg_name (i := 1) sc_law.nd rfl (Or.inl rfl)) (pss_one (ps_if (pt_not (pt_val (pe_hasG HG_law_right hg (hr.mono (by decide)) (by rfl) (pa_cons (pe_shut (pe_has H_law_urn (hr.mono (by decide)) (by rfl) (pa_cons (pv 0) (pa_cons (pv 1) pa_nil)))) pa_nil)))) (pss_one (ps_ret pe_bl)) pss_nil)))
      (pss_one (ps_ret
            pe_bl))), ?_⟩
    refine ⟨_, rfl, a, _, rfl, hS, fun n n0 n1 => ⟨n, rfl, by omega, by omega, for_range (lo := 0) (n := n.toNat) (fun i σ H' => ∃ v : Option V, σ = [some (.ref a), v] ∧ Same H H') ⟨none, rfl, Same.refl _⟩ ?_ ?_⟩⟩
    · rintro i σ H0 hi ⟨v, rfl, s0⟩
      refine ⟨_, rfl, _, rfl, a, ns, _, rfl, s0.seq hS, by omega, by omega, fun p x y z H2 hp s2 B hy => ⟨p, rfl, x, y, z, B, hy, p, rfl, upd_same, fun H3 s3 => ⟨true, rfl, ?_⟩⟩⟩
      exact ⟨_, rfl, s0.trans ((same_own s2 hp).trans s3)⟩
    · rintro σ H' ⟨v, rfl, s0⟩
      exact q H'
end
end K2

namespace K2
open PySem L2 Ur
section
variable {P : Program} {w : World} {K :
      PySem.W.Frag} {mg : Str → Option Value} {base : Heap}
/-- all defs together -/
theorem all_ok {f : Addr} {fd : FuncData} (F : Fun K "law" "law" sLaw f fd) (T : Bl mg) (mG : mg "gcd" = some (.builtin "math.gcd"))
    (D2 : Fnd K mg "common_divisor" sCom p_common_divisor) (D4 : Fnd K mg "is_whole" sWhole n_is_whole) (D5 : Fnd K mg "wholes_fit" sWholes p_wholes_fit) (D6 : Fnd K mg "fraction_fits" sFracF n_value)
    (D7 : Fnd K mg "point_fits" sPointF n_value) (D8 : Fnd K mg "direction_fits" sDirF n_value) (D10 : FndK K mg "is_fraction" sIsFrac n_value) (D11 : FndK K mg "is_point" sIsPoint n_value) (D12 : FndK K mg "is_direction" sIsDir n_value)
    (D14 : Fnd K mg "_law_urn" sUrn p_law_urn) (D15 : Fnd K mg "_law_pull" sPull ["_law_urn_here", "_law_many"]) (D16 : Fnd K mg "_law_any" sAny p_law_any) (D17 : Fnd K mg "_law_num" sNum p_law_num) (D18 : Fnd K mg "_law_laps" sLaps p_law_laps)
    (D19 : Fnd K mg "_law_gcd" sGcd p_law_gcd) (D20 : Fnd K mg "_law_thin" sThin p_law_thin) (D21 : Fnd K mg "_law_is_whole" sLWhole n_law_is_whole) (D22 : Fnd K mg "_law_are_whole" sAre p_law_are_whole)
    (D23 : Fnd K mg "_law_is_frac" sLFrac n_lthing) (D24 : Fnd K mg "_law_is_spot" sLSpot n_lthing) (D25 : Fnd K mg "_law_is_aim" sLAim n_lthing) (D26 : Fnd K mg "_law_thing" sThing p_law_thing) (D27 : Fnd K mg "_law_right" sRight p_law_right) :
    FnG P w K mg base CX0 6 f fd p_law (spLaw K) := by
  have h2 : Has P w K mg base "common_divisor" p_common_divisor 1 (spCom K) := D2.has fun F => ok_com F mG
  have h4 : Has P w K mg base "is_whole" n_is_whole 1 (spWhole K) := D4.has fun F => ok_whole F T
  have h5 : Has P w K mg base "wholes_fit" p_wholes_fit 2 (spTold K fun xs => xs.all wh) := D5.has fun F => ok_wholes F T h4
  have h6 : Has P w K mg base "fraction_fits" n_value 3 (spTold K isFr) := D6.has fun F => ok_fracF F T mG h5
  have h7 : Has P w K mg base "point_fits" n_value 3 (spTold K isPt) := D7.has fun F => ok_pointF F T h2 h5
  have h8 : Has P w K mg base "direction_fits" n_value 3 (spTold K isDr) := D8.has fun F => ok_dirF F T mG h5
  have h10 : Has P w K mg base "is_fraction" n_value 4 (spTold K isFr) := D10.fnd.has fun F => ok_isFrac F h6
  have h11 : Has P w K mg base "is_point" n_value 4 (spTold K isPt) := D11.fnd.has fun F => ok_isPoint F h7
  have h12 : Has P w K mg base "is_direction" n_value 4 (spTold K isDr) := D12.fnd.has fun F => ok_isDir F h8
  have k10 : HasK P w K mg base "is_fraction" n_value 4 (spTold K isFr) := D10.hasK fun F => ok_isFrac F h6
  have k11 : HasK P w K mg base "is_point" n_value 4 (spTold K isPt) := D11.hasK fun F => ok_isPoint F h7
  have k12 : HasK P w K mg base "is_direction" n_value 4 (spTold K isDr) := D12.hasK fun F => ok_isDir F h8
  have h14 : Has P w K mg base "_law_urn" p_law_urn 1 (spUrn K) := D14.has fun F => ok_urn F T
  have h15 : Has P w K mg base "_law_pull" ["_law_urn_here", "_law_many"] 1 spPull := D15.has fun F => ok_pull F T
  have h16 : Has P w K mg base "_law_any" p_law_any 2 spAny := D16.has fun F => ok_any F T h15
  have h17 : Has P w K mg base "_law_num" p_law_num 2 spNum := D17.has fun F => ok_num F h15
  have h18 : Has P w K mg base "_law_laps" p_law_laps 1 (spLaps K) := D18.has fun F => ok_laps F T
  have h19 : Has P w K mg base "_law_gcd" p_law_gcd 1 spGcd := D19.has fun F => ok_gcd F T
  have h20 : Has P w K mg base "_law_thin" p_law_thin 2 (spThin K) := D20.has fun F => ok_thin F T h19
  have h21 : Has P w K mg base "_law_is_whole" n_law_is_whole 1 (spWhole K) := D21.has fun F => ok_lwhole F T
  have h22 : Has P w K mg base "_law_are_whole" p_law_are_whole 2 (spAre K) := D22.has fun F => ok_are F T h21
  have h23 : Has P w K mg base "_law_is_frac" n_lthing 3 (spTold K isFr) := D23.has fun F => ok_lfrac F T h22 h19
  have h24 : Has P w K mg base "_law_is_spot" n_lthing 3 (spTold K isPt) := D24.has fun F => ok_lspot F T h22 h20
  have h25 : Has P w K mg base "_law_is_aim" n_lthing 3 (spTold K isDr) := D25.has fun F => ok_laim F T h22 h20
  have h26 : Has P w K mg base "_law_thing" p_law_thing 3 (spThing K) := D26.has fun F => ok_thing F T h15 h16 h17
  have g27 : HasG P w K mg base "_law_right" p_law_right 5 spRight := D27.hasG fun F => ok_right F T h26 h23 h24 h25 h10 h11 h12 k10 k11 k12
  exact ok_law F T h18 h14 g27
end
theorem walk2 {l : PySem.W.OpenLaw} {q : Program} {loose : List Str} {XP : (Str → Option Value) → Heap → Prop} {YP : World → Heap → Prop} {d : DefRec} {K : Params → PySem.W.Frag} (hn : l.most = some 63) (hdf : d.params.defaults = [])
    (hY : ∀ (w : World) (h : Heap),
          YP w h → (K w.params).In h)
    (F : ∀ (w : World) (mg : Str → Option Value) (fa : Addr) (h : Heap),
          (K w.params).In h → h.Ns mainGlobals mg → mg d.name = some (.ref fa) →
      ∃ fd : FuncData, (∀ (s : Shared) (u : Value), BindsTo s fd ⟨[u], []⟩ [("_law_script", u)]) ∧ ∀ base : Heap, (K w.params).In base → base.Ns mainGlobals mg → FnG l.prog w (K w.params) mg base CX0 6 fa fd p_law (spLaw (K w.params))) :
    PySem.W.WalkO q loose XP YP l.row.toRowW
          d [] (fun f vs => PySem.call f vs) :=
  walkG (n := 63) (k := 6) (x := "_law_script") (sp := fun K => spLaw K) hn (by decide) hdf ⟨rfl, by decide, by decide⟩ hY F fun _ _ a ns _ hS => ⟨a, ns, rfl, hS, fun _ => rfl⟩
theorem law_mk {l : PySem.W.OpenLaw} {w : World} {K : PySem.W.Frag} {h : Heap} {mg : Str → Option Value} {fa f1 : Addr} (X : K.In h) (G : h.Ns mainGlobals mg) (hfa : mg "law" = some (.ref fa))
    {oc kV dc pm cd ct : Value} {od an : Option Addr} {sl : Array (Option Value)} (a : PySem.W.nsIn K mainGlobals "law" = some (some (.ref f1)))
    (lk : K.lookup f1 = some ⟨oc, od, .func (PySem.W.fnOf "law" "law" (defArgs sLaw) (defBody sLaw) (defScope sLaw) .none kV dc pm an cd ct), sl⟩) (c : PySem.W.codeIn K cd "law" = true) (k : PySem.W.keepIn K (.ref f1) = true)
    (ok : ∀ (base : Heap) (fd : FuncData), Fun K "law" "law" sLaw f1 fd → FnG l.prog w K mg base CX0 6 f1 fd p_law (spLaw K)) :
    ∃ fd : FuncData, (∀ (s : Shared) (u : Value), BindsTo s fd ⟨[u], []⟩ [("_law_script", u)]) ∧ ∀ base : Heap, K.In base → base.Ns mainGlobals mg → FnG l.prog w K mg base CX0 6 fa fd p_law (spLaw K) := by
  obtain rfl : fa = f1 := by
    have e := hfa.symm.trans (PySem.W.mg_of X G a)
    cases e
    rfl
  exact ⟨_, fun s u => .of_eq rfl, fun base _ _ => ok base _ (fun_mk lk c k)⟩
theorem law_all {l : PySem.W.OpenLaw} {w : World} {K : PySem.W.Frag} {h : Heap} {mg : Str → Option Value} {fa f1 : Addr} (X : K.In h) (G : h.Ns mainGlobals mg) (hfa : mg "law" = some (.ref fa)) (T : Bl mg) (mG : mg "gcd" = some (.builtin "math.gcd"))
    (D2 : Ur.Fnd K mg "common_divisor" sCom K2.p_common_divisor) (D4 : Ur.Fnd K mg "is_whole" sWhole K2.n_is_whole) (D5 : Ur.Fnd K mg "wholes_fit" sWholes K2.p_wholes_fit) (D6 : Ur.Fnd K mg "fraction_fits" sFracF K2.n_value) (D7 : Ur.Fnd K mg "point_fits" sPointF K2.n_value) (D8 : Ur.Fnd K mg "direction_fits" sDirF K2.n_value) (D10 : Ur.FndK K mg "is_fraction" sIsFrac K2.n_value) (D11 : Ur.FndK K mg "is_point" sIsPoint K2.n_value) (D12 : Ur.FndK K mg "is_direction" sIsDir K2.n_value) (D14 : Ur.Fnd K mg "_law_urn" sUrn K2.p_law_urn) (D15 : Ur.Fnd K mg "_law_pull" sPull ["_law_urn_here", "_law_many"]) (D16 : Ur.Fnd K mg "_law_any" sAny K2.p_law_any) (D17 : Ur.Fnd K mg "_law_num" sNum K2.p_law_num) (D18 : Ur.Fnd K mg "_law_laps" sLaps K2.p_law_laps) (D19 : Ur.Fnd K mg "_law_gcd" sGcd K2.p_law_gcd) (D20 : Ur.Fnd K mg "_law_thin" sThin K2.p_law_thin) (D21 : Ur.Fnd K mg "_law_is_whole" sLWhole K2.n_law_is_whole) (D22 : Ur.Fnd K mg "_law_are_whole" sAre K2.p_law_are_whole) (D23 : Ur.Fnd K mg "_law_is_frac" sLFrac K2.n_lthing) (D24 : Ur.Fnd K mg "_law_is_spot" sLSpot K2.n_lthing) (D25 : Ur.Fnd K mg "_law_is_aim" sLAim K2.n_lthing) (D26 : Ur.Fnd K mg "_law_thing" sThing K2.p_law_thing) (D27 : Ur.Fnd K mg "_law_right" sRight K2.p_law_right)
    {oc kV dc pm cd ct : Value} {od an : Option Addr} {sl : Array (Option Value)} (a : PySem.W.nsIn K mainGlobals "law" = some (some (.ref f1)))
    (lk : K.lookup f1 = some ⟨oc, od, .func (PySem.W.fnOf "law" "law" (defArgs sLaw) (defBody sLaw) (defScope sLaw) .none kV dc pm an cd ct), sl⟩) (c : PySem.W.codeIn K cd "law" = true) (k : PySem.W.keepIn K (.ref f1) = true) :
    ∃ fd : FuncData, (∀ (s : Shared) (u : Value), BindsTo s fd ⟨[u], []⟩ [("_law_script", u)]) ∧ ∀ base : Heap, K.In base → base.Ns mainGlobals mg → FnG l.prog w K mg base CX0 6 fa fd p_law (spLaw K) :=
  law_mk X G hfa a lk c k fun base fd F => all_ok F T mG D2 D4 D5 D6 D7 D8 D10 D11 D12 D14 D15 D16 D17 D18 D19 D20 D21 D22 D23 D24 D25 D26 D27
end K2
open PySem PySem.W
      PyProof.Rows
set_option
      maxRecDepth 100000 in
set_option maxHeartbeats 0 in
theorem PySem.Challenge.cw_hullrests_k02_fractions_points_direction_holds : PySem.Challenge.rw_hullrests_k02_fractions_points_direction.Holds := by
  w_on; o_law; k_head;
        (case hw => w_witness2)
  k_fill
  refine K2.walk2 (l := PySem.Challenge.rw_hullrests_k02_fractions_points_direction) rfl rfl (fun w h Y => PySem.W.kIn_of Y) ?F
  case F =>
    intro w mg fa h KX G hmg
    have T : K2.Bl mg := by
      refine' ⟨PySem.W.mg_none_of KX G ?_, PySem.W.mg_none_of KX G ?_, PySem.W.mg_none_of KX G ?_, PySem.W.mg_none_of KX G ?_, PySem.W.mg_none_of KX G ?_, PySem.W.mg_none_of KX G ?_, PySem.W.mg_none_of KX G ?_, PySem.W.mg_none_of KX G ?_, PySem.W.mg_none_of KX G ?_, PySem.W.mg_none_of KX G ?_, PySem.W.mg_none_of KX G ?_, PySem.W.mg_none_of KX G ?_⟩ <;> k_is
    have mG : mg "gcd" = some (.builtin "math.gcd") := by
      refine' PySem.W.mg_of KX G ?_
      k_is
    refine' K2.law_all KX G hmg T mG
      (Ur.fnd_mk (x := "common_divisor") (st := K2.sCom) (ps := K2.p_common_divisor) KX G ?a2 ?l2 ?c2 ?k2 (fun _ _ _ _ _ _ us hl => match us, hl with | [_], _ => rfl))
      (Ur.fnd_mk (x := "is_whole") (st := K2.sWhole) (ps := K2.n_is_whole) KX G ?a4 ?l4 ?c4 ?k4 (fun _ _ _ _ _ _ us hl => match us, hl with | [_], _ => rfl))
      (Ur.fnd_mk (x := "wholes_fit") (st := K2.sWholes) (ps := K2.p_wholes_fit) KX G ?a5 ?l5 ?c5 ?k5 (fun _ _ _ _ _ _ us hl => match us, hl with | [_], _ => rfl))
      (Ur.fnd_mk (x := "fraction_fits") (st := K2.sFracF) (ps := K2.n_value) KX G ?a6 ?l6 ?c6 ?k6 (fun _ _ _ _ _ _ us hl => match us, hl with | [_], _ => rfl))
      (Ur.fnd_mk (x := "point_fits") (st := K2.sPointF) (ps := K2.n_value) KX G ?a7 ?l7 ?c7 ?k7 (fun _ _ _ _ _ _ us hl => match us, hl with | [_], _ => rfl))
      (Ur.fnd_mk (x := "direction_fits") (st := K2.sDirF) (ps := K2.n_value) KX G ?a8 ?l8 ?c8 ?k8 (fun _ _ _ _ _ _ us hl => match us, hl with | [_], _ => rfl))
      (Ur.fndK_mk (x := "is_fraction") (st := K2.sIsFrac) (ps := K2.n_value) KX G ?a10 ?l10 ?c10 ?k10 (fun _ _ _ _ _ _ us hl => match us, hl with | [_], _ => rfl) (fun _ _ _ _ _ _ us ws hl => by rcases Ur.one_split hl with ⟨v, rfl, rfl⟩ | ⟨v, rfl, rfl⟩ <;> rfl))
      (Ur.fndK_mk (x := "is_point") (st := K2.sIsPoint) (ps := K2.n_value) KX G ?a11 ?l11 ?c11 ?k11 (fun _ _ _ _ _ _ us hl => match us, hl with | [_], _ => rfl) (fun _ _ _ _ _ _ us ws hl => by rcases Ur.one_split hl with ⟨v, rfl, rfl⟩ | ⟨v, rfl, rfl⟩ <;> rfl))
      (Ur.fndK_mk (x := "is_direction") (st := K2.sIsDir) (ps := K2.n_value) KX G ?a12 ?l12 ?c12 ?k12 (fun _ _ _ _ _ _ us hl => match us, hl with | [_], _ => rfl) (fun _ _ _ _ _ _ us ws hl => by rcases Ur.one_split hl with ⟨v, rfl, rfl⟩ | ⟨v, rfl, rfl⟩ <;> rfl))
      (Ur.fnd_mk (x := "_law_urn") (st := K2.sUrn) (ps := K2.p_law_urn) KX G ?a14 ?l14 ?c14 ?k14 (fun _ _ _ _ _ _ us hl => match us, hl with | [_, _], _ => rfl))
      (Ur.fnd_mk (x := "_law_pull") (st := K2.sPull) (ps := ["_law_urn_here", "_law_many"]) KX G ?a15 ?l15 ?c15 ?k15 (fun _ _ _ _ _ _ us hl => match us, hl with | [_, _], _ => rfl))
      (Ur.fnd_mk (x := "_law_any") (st := K2.sAny) (ps := K2.p_law_any) KX G ?a16 ?l16 ?c16 ?k16 (fun _ _ _ _ _ _ us hl => match us, hl with | [_, _], _ => rfl))
      (Ur.fnd_mk (x := "_law_num") (st := K2.sNum) (ps := K2.p_law_num) KX G ?a17 ?l17 ?c17 ?k17 (fun _ _ _ _ _ _ us hl => match us, hl with | [_, _], _ => rfl))
      (Ur.fnd_mk (x := "_law_laps") (st := K2.sLaps) (ps := K2.p_law_laps) KX G ?a18 ?l18 ?c18 ?k18 (fun _ _ _ _ _ _ us hl => match us, hl with | [_], _ => rfl))
      (Ur.fnd_mk (x := "_law_gcd") (st := K2.sGcd) (ps := K2.p_law_gcd) KX G ?a19 ?l19 ?c19 ?k19 (fun _ _ _ _ _ _ us hl => match us, hl with | [_, _], _ => rfl))
      (Ur.fnd_mk (x := "_law_thin") (st := K2.sThin) (ps := K2.p_law_thin) KX G ?a20 ?l20 ?c20 ?k20 (fun _ _ _ _ _ _ us hl => match us, hl with | [_], _ => rfl))
      (Ur.fnd_mk (x := "_law_is_whole") (st := K2.sLWhole) (ps := K2.n_law_is_whole) KX G ?a21 ?l21 ?c21 ?k21 (fun _ _ _ _ _ _ us hl => match us, hl with | [_], _ => rfl))
      (Ur.fnd_mk (x := "_law_are_whole") (st := K2.sAre) (ps := K2.p_law_are_whole) KX G ?a22 ?l22 ?c22 ?k22 (fun _ _ _ _ _ _ us hl => match us, hl with | [_, _], _ => rfl))
      (Ur.fnd_mk (x := "_law_is_frac") (st := K2.sLFrac) (ps := K2.n_lthing) KX G ?a23 ?l23 ?c23 ?k23 (fun _ _ _ _ _ _ us hl => match us, hl with | [_], _ => rfl))
      (Ur.fnd_mk (x := "_law_is_spot") (st := K2.sLSpot) (ps := K2.n_lthing) KX G ?a24 ?l24 ?c24 ?k24 (fun _ _ _ _ _ _ us hl => match us, hl with | [_], _ => rfl))
      (Ur.fnd_mk (x := "_law_is_aim") (st := K2.sLAim) (ps := K2.n_lthing) KX G ?a25 ?l25 ?c25 ?k25 (fun _ _ _ _ _ _ us hl => match us, hl with | [_], _ => rfl))
      (Ur.fnd_mk (x := "_law_thing") (st := K2.sThing) (ps := K2.p_law_thing) KX G ?a26 ?l26 ?c26 ?k26 (fun _ _ _ _ _ _ us hl => match us, hl with | [_], _ => rfl))
      (Ur.fnd_mk (x := "_law_right") (st := K2.sRight) (ps := K2.p_law_right) KX G ?a27 ?l27 ?c27 ?k27 (fun _ _ _ _ _ _ us hl => match us, hl with | [_], _ => rfl))
      ?a ?l ?c ?k
    (case a2 => k_is); (case l2 => k_is);
          (case c2 => k_is); (case k2 => k_is)
    (case a4 => k_is); (case l4 => k_is);
          (case c4 => k_is); (case k4 => k_is)
    (case a5 => k_is); (case l5 => k_is); (case c5 => k_is); (case k5 => k_is)
    (case a6 => k_is); (case l6 => k_is); (case c6 => k_is); (case k6 => k_is)
    (case a7 => k_is); (case l7 => k_is); (case c7 => k_is); (case k7 => k_is)
    (case a8 => k_is); (case l8 => k_is); (case c8 => k_is); (case k8 => k_is)
    (case a10 => k_is); (case l10 => k_is); (case c10 => k_is); (case k10 => k_is)
    (case a11 => k_is); (case l11 => k_is); (case c11 => k_is); (case k11 => k_is)
    (case a12 => k_is); (case l12 => k_is); (case c12 => k_is); (case k12 => k_is)
    (case a14 => k_is); (case l14 => k_is); (case c14 => k_is); (case k14 => k_is)
    (case a15 => k_is); (case l15 => k_is); (case c15 => k_is); (case k15 => k_is)
    (case a16 => k_is); (case l16 => k_is); (case c16 => k_is); (case k16 => k_is)
    (case a17 => k_is); (case l17 => k_is); (case c17 => k_is); (case k17 => k_is)
    (case a18 => k_is); (case l18 => k_is); (case c18 => k_is); (case k18 => k_is)
    (case a19 => k_is); (case l19 => k_is); (case c19 => k_is); (case k19 => k_is)
    (case a20 => k_is); (case l20 => k_is); (case c20 => k_is); (case k20 => k_is)
    (case a21 => k_is); (case l21 => k_is); (case c21 => k_is); (case k21 => k_is)
    (case a22 => k_is); (case l22 => k_is); (case c22 => k_is); (case k22 => k_is)
    (case a23 => k_is); (case l23 => k_is); (case c23 => k_is); (case k23 => k_is)
    (case a24 => k_is); (case l24 => k_is); (case c24 => k_is); (case k24 => k_is)
    (case a25 => k_is); (case l25 => k_is); (case c25 => k_is); (case k25 => k_is)
    (case a26 => k_is); (case l26 => k_is); (case c26 => k_is); (case k26 => k_is)
    (case a27 => k_is); (case l27 => k_is); (case c27 => k_is); (case k27 => k_is)
    (case a => k_is); (case l => k_is); (case c => k_is); (case k => k_is)
#print axioms PySem.Challenge.cw_hullrests_k02_fractions_points_direction_holds

