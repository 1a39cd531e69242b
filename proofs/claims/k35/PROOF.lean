import PyProof.Rows.All
import Wide.All
import OpenK.AllK
import Wide.FinOn
import PyProof.EqAt
import PyProof.EqKinds
import PyProof.TupleCall
import HandS.Base
import HandS.Call
import HandS.List
import HandS.Comp
import HandS.Ends
import HandS.Words
import PyProof.ReprRoads
import HandS.Dict
import HandS.Iter
import HandS.Text
import HandS.WordsList
import HandS.Conv
import HandS.IsInst
import HandS.Gcd
import HandS.Wide
import HandS.Defaults
import HandS.Rev
import HandS.Walk
import KE.GoesEnum
import HandS.TupAny
import HandS.Flow
import HandS.Style
import PySem.Challenge.RW_hullrests_k35_whole_remainders
set_option Elab.async false
set_option linter.all false
set_option maxRecDepth 100000
namespace Ur
open PySem L2

def nums (a b c : Int) : List V := [.int a, .int b, .int c]
structure Bd (a b c : Int) : Prop where
  a0 : 0 ≤ a
  b0 : 0 ≤ b
  b1 : b < 4294967296
  c0 : 0 ≤ c
  c1 : c < 4294967296
/-- an urn: a list of three numbers within bounds, whichever -/
def UrnO (u : Addr) : HO := .ext fun h => ∃ (a b c : Int) (its : List Value) (n : Nat), Bd a b c ∧ Vals (nums a b c) its ∧ h.get? u = some { cls := .type "list", data := .seq its.toArray n }

section
variable {X : Cx} {pins : List (Addr × Obj)} {σ : L2.St} {H : Hp} {s : Shared} {u : Addr}
theorem urnOpen (I : Inv X pins σ H s) (h : H u = some (UrnO u)) : ∃ a b c, Bd a b c ∧ Inv X pins σ (upd H u (.lst (nums a b c))) s := by
  obtain ⟨⟨a, b, c, its, n, B, r, e⟩, _⟩ := I.hok u _ h
  refine ⟨a, b, c, B, I.write (x := u) (e := u) (t' := s.toks) (h' := s.heap) (by rw [h]; exact trivial) (.inl rfl) (fun b v _ q => q) ⟨_, e⟩ ?_⟩
  exact ⟨by show 3 ≤ sizeLine; decide, its, n, r, e⟩
theorem urnShut {a b c : Int} (I : Inv X pins σ H s) (h : H u = some (.lst (nums a b c))) (B : Bd a b c) : Inv X pins σ (upd H u (UrnO u)) s := by
  obtain ⟨_, its, n, r, e⟩ := I.hok u _ h
  refine I.write (x := u) (e := u) (t' := s.toks) (h' := s.heap) (by rw [h]; exact trivial) (.inl rfl) (fun b v _ q => q) ⟨_, e⟩ ?_
  exact ⟨⟨a, b, c, its, n, B, r, e⟩, ⟨_, e⟩, fun h1 h2 ⟨a, b, c, its, n, B, r, e⟩ k => ⟨a, b, c, its, n, B, r, k _ e⟩⟩
end
theorem upd_back {H : Hp} {u : Addr} {o p : HO} (h : H u = some o) : upd (upd H u p) u o = H := by
  funext b
  by_cases e : b = u
  · rw [e, upd_same, h]
  · rw [upd_ne e, upd_ne e]

def Shut (u : Addr) (Q : Hp → Prop) (H : Hp) : Prop := ∃ a b c, Bd a b c ∧ H u = some (.lst (nums a b c)) ∧ Q (upd H u (UrnO u))
/-- the statements run while the urn is seen as a list -/
def tUrn (t : TS) : TS := fun D σ H => ∃ u, H u = some (UrnO u) ∧ ∀ a b c, Bd a b c → t ⟨fun σ' H' => Shut u (D.nx σ') H', fun v H' => Shut u (D.rt v) H', fun σ' H' => Shut u (D.bk σ') H', fun σ' H' => Shut u (D.ct σ') H'⟩ σ (upd H u (.lst (nums a b c)))
def tShut (t : TE) : TE := fun σ H Q => t σ H fun v H1 => ∃ u, v = .ref u ∧ Shut u (Q v) H1
section
variable {X : Cx}
theorem pss_urn {sts : List Stmt} {t : TS} (h : PSs X sts t) : PSs X sts (tUrn t) := by
  refine ⟨fun pins s
        σ H D I hw => ?_⟩
  obtain ⟨u, hu, hw⟩ := hw
  obtain ⟨a, b, c, B, I1⟩ := urnOpen I hu
  refine thn (h.run pins s σ _ _ I1 (hw a b c B)) fun f s1 q => ?_
  cases f with
  | next => obtain ⟨σ', H', I2, a, b, c, B, e, q⟩ := q; exact ⟨σ', _, urnShut I2 e B, q⟩
  | brk => obtain ⟨σ', H', I2, a, b, c, B, e, q⟩ := q; exact ⟨σ', _, urnShut I2 e B, q⟩
  | cont => obtain ⟨σ', H', I2, a, b, c, B, e, q⟩ := q; exact ⟨σ', _, urnShut I2 e B, q⟩
  | ret v => obtain ⟨x, σ', H', I2, r, a, b, c, B, e, q⟩ := q; exact ⟨x, σ', _, urnShut I2 e B, r, q⟩
theorem pe_shut {e : Expr} {t : TE} (h : PE X e t) : PE X e (tShut t) := by
  refine ⟨fun pins s
        σ H Q I hw => ?_⟩
  refine thn (h.run pins s σ _ _ I hw) fun v s1 ⟨x, H1, I2, r, u, e1, a, b, c, B, e2, q⟩ => ?_
  exact ⟨x, _, urnShut I2 e2 B, r, q⟩
/-- repr of data -/
def rRepr (K : PySem.W.Frag) : List V → Hp → VK → Prop := fun xs H Q => ∃ (a : Addr) (d : PyData), xs = [.ref a] ∧ Dp K H (.ref a) d ∧ d.showable = true ∧ d.hasDict = false ∧ d.shown.length ≤ sizeLine ∧ d.depth ≤ 60 ∧ Q (.str d.shown) H
end
end Ur
namespace Ur
open PySem L2
section
variable {X : Cx}
theorem call_repr (hg : X.A.guards = some []) (hu : X.A.units + 64 < cLine) : CallR X (.builtin "repr") (rRepr X.K) := by
  intro pins s σ
        H xs us Q I r h
  obtain ⟨a, d, rfl, hd, h1, h2, h3, h4, q⟩ := h
  cases r with
  | cons ra rn =>
    cases rn
    obtain rfl := (show _ = Value.ref a from ra)
    obtain ⟨as, hr⟩ := Dp.reads I d _ _ hd rfl
    exact repr_of_reads' hr h1 (fun z => by rw [h2] at z; cases z) hg (by omega) (fun b o e => e) (fun h' u tk hk => ⟨.str d.shown, H, I.kept hk, ⟨u, rfl⟩, q⟩) h3
end
/-- a def's promise where no repr runs around it -/
structure FnG (P : Program) (w : World) (K : PySem.W.Frag) (mg : Str → Option Value) (base : Heap) (CX : CXT) (k : Nat) (f : Addr) (fd : FuncData) (ps : List Str) (sp : Sp) : Prop where
  lens : ∀ vs H Q E, sp vs H Q E → vs.length = ps.length
  go : ∀ (A : Around) (outer : List Env) (s : Shared) (H : Hp) (args : Args) (us : List Value) (vs : List V) (Q : VK) (E : XK), A.guards = some [] → Room k A → Env0 P w K mg base A outer s H →
    BindsTo s fd args (ps.zip us) → Vals vs us → sp vs H Q E → codeAny (model P w) A (.call (.ref f) args) (CR CX outer P w H s Q E) s
section
variable {X : Cx} {CX : CXT} {k : Nat} {f : Addr} {fd : FuncData} {ps : List Str} {sp : Sp} {E : XK} {ds : List Value} {dvs : List V}
theorem callG {x : Str} {p pos : Pos} {e : Expr} {es : List Expr} {t : TA} (F : FnG X.prog X.w X.K X.mg X.base CX k f fd ps sp) (hg : X.A.guards = some []) (hr : Room k X.A) (hgl : Gl X x) (hm : X.mg x = some (.ref f))
    (hk : PySem.W.keepIn X.K (.ref f) = true) (hb : Binds X.K fd ps []) (hx : Passes CX X E) (ha : PA X (e :: es) t) (hdb : (x == ("__debug__" : Str)) = false := by decide)
    (he : starEach (e :: es) X.env = (false, eval e X.env) :: starEach es X.env :=
          by rfl) (hpl : (backTo pos (starEach es X.env)).any (·.1) = false := by rfl) :
    PE X (.Call (.Name x p) (e :: es) [] pos) (tCall sp [] E t) := by
  constructor
  intro pins s σ H Q I h
  apply wpAny_Call_Name_kw
  apply ld_glob I hgl hm _ hdb
  apply PySem.W.callWith_K (h₀ := X.base) I.ok.mod.kin hk _ he hpl
  refine thn (ha.run pos pins s σ H _ I h) ?_
  rintro us s1 ⟨vs, H1, I1, r, q⟩
  refine ⟨I1.kIn, ?_⟩
  have q' : sp vs H1 Q E := by simpa using q
  have hl : us.length = ps.length := by
    rw [← r.length]
    exact F.lens _ _ _ _ q'
  have b1 : BindsTo s1 fd ⟨us, []⟩ (ps.zip us) := by simpa using hb s1 us I1.kIn (by simpa using hl)
  apply wpAny_call
  refine codeAny_mono (F.go X.A X.stack s1 H1 ⟨us, []⟩ us vs Q E hg hr I1.env0 b1 r q') ?_
  intro res s' hq
  match res, hq with
  | .error e, hq => exact hx pins σ H1 s1 e s' I1 hq
  | .ok (.ret u), hq => exact I1.after hq
end
end Ur

namespace Ur
open PySem L2 PyProof.Rows
section
variable {P : Program} {w : World} {K :
      PySem.W.Frag} {mg : Str → Option Value} {base : Heap}
/-- the rule for a def that asks that no repr runs around it -/
theorem okG {x qual : Str} {st : Stmt} {f : Addr} {fd : FuncData} {N ps : List Str} {k : Nat} {sp : Sp} (F : Fun K x qual st f fd) (S : FnScope N ps (defScope st))
    (len : ∀ vs H Q E, sp vs H
          Q E → vs.length = ps.length)
    (body : ∀ (cdv : Value) (A : Around) (outer : List Env) (s : Shared) (H : Hp) (vs : List V) (Q : VK) (E : XK), A.guards = some [] → Room k (A.deeper (envOfC qual (defScope st) s.heap.objs.size f cdv)) →
      sp vs H Q E → ∃ t, PSs (cxOf CX0 P w K mg base N qual (defScope st) f cdv A outer s H E).nox (defBody st) t ∧ t { nx := fun _ H' => Q .non H', rt := Q } (start N vs) H) :
    FnG P w K mg base CX0 (k + 1) f fd ps sp := by
  obtain ⟨oc, od, kV, doc, pm, an,
        cdv, ct, osl, rfl, lk, hcd⟩ := F.ex
  refine ⟨len, ?_⟩
  intro A outer s H args us vs Q E hg hr e0 hb r hsp
  have old : ∀ b o, base.get? b = some o → s.heap.get? b = some o := fun b o e => (e0.bs b o e).1
  have KX := e0.mod.kin.keeps old
  apply codeAny_call_function hr.depth (KX _ _ lk) rfl S.co S.gen rfl (PySem.W.codeRec_of KX hcd)
  apply hb
  apply wpAny_newFunctionEnv_cells S.kind
  · rintro ⟨n, v⟩ hy
    have hn := (List.of_mem_zip hy).1
    cases S.par n hn with
    | inl q => exact Or.inl q
    | inr q => exact Or.inr ⟨q, PySem.W.cellsFrom_some _ _ _ (Or.inl q)⟩
  intro env he s1 x
  subst he
  refine ⟨(e0.mod.nolimit.keeps old).keeps x.toInCall.keep, ?_⟩
  apply codeAny_func
  obtain ⟨t, ht, hq⟩ := body cdv A outer s H vs Q E hg (hr.deeper _) hsp
  have I := inv_start (CX := CX0) (E := E) S hr.hd e0 (len _ _ _ _ hsp) r x
  refine wpAny_mono (ht.nox.run [] s1 (start N vs) H _ I hq) ?_ (fun _ _ z => z)
  intro fl s' hs
  match fl, hs with
  | .ret u, ⟨v, _, H', J, rv, q⟩ => exact ⟨v, H', J.os, J.bare, J.base, J.hok, rv, q⟩
  | .next, ⟨_, H', J, q⟩ => exact ⟨V.non, H', J.os, J.bare, J.base, J.hok, rfl, q⟩
  | .brk, ⟨_, _, _, q⟩ => exact False.elim q
  | .cont, ⟨_, _, _, q⟩ => exact False.elim q
end
end Ur

namespace Ur
open PySem L2 PyProof.Rows
section
variable {P : Program} {w : World} {K : PySem.W.Frag} {mg mb : Str → Option Value} {k : Nat} {fa a : Addr} {fd : FuncData} {x : Str} {sp : Sp} {s1 : Shared} {vs : List Value} {ns : List Int}
abbrev Goes (fa a : Addr) (P : Program) (w : World) (s1 : Shared) : Prop :=
  codeAny (model P w) callerA (.call (.ref fa) ⟨[.ref a], []⟩) (fun r s' => r = .ok (.ret (.bool true)) ∧ OldK s1.heap s'.heap ∧ s'.os = s1.os ∧ AllBare s'.gens) s1
/-- from an abstract heap that tracks the script at most -/
theorem goes_of {H : Hp} (KX : K.In s1.heap) (hns : s1.heap.Ns mainGlobals mg) (hb : s1.heap.Ns builtinsNs mb) (hbb : ∀ y : Str, y ≠ "__name__" → mb y = bootBuiltins y) (hlim : s1.heap.NoLimit) (hg : s1.gens = #[])
    (ha : s1.heap.get? a = some { cls := .type "list", data := .seq vs.toArray }) (hr : Room k callerA)
    (F : ∀ base : Heap, K.In base → base.Ns mainGlobals mg → FnG P w K mg base CX0 k fa fd [x] sp) (bind : ∀ (s : Shared) (u : Value), BindsTo s fd ⟨[u], []⟩ [(x, u)])
    (hok : HOk P w H s1.heap) (hsp : sp [.ref a] H (fun v _ => v = .bl true) fun _ _ _ => False)
    (one : ∀ b, H b = none ∨ (b = a ∧ K.lookup a = none ∧ ∃ o ys, H b = some (.frz o (.lst ys)))) : Goes fa a P w s1 := by
  have seen : ∀ {b o}, s1.heap.get? b = some o → H b = none → (hidT s1.heap H).get? b = some o := fun e z => hidT_get e z
  have notD : ∀ {b o es ep}, s1.heap.get? b = some o → o.data = .dict es ep → H b = none := by
    intro b o es ep e d
    rcases one b with z | ⟨rfl, _, _⟩
    · exact z
    · rw [ha] at e
      obtain rfl := Option.some.inj e
      cases (show Data.seq vs.toArray _ = Data.dict es ep from d)
  have up : ∀ {b m}, s1.heap.Ns b m → (hidT s1.heap H).Ns b m := by
    rintro b m ⟨o, es, ep, e, d, r⟩
    exact ⟨o, es, ep, seen e (notD e d), d, r⟩
  have KB : K.In (hidT s1.heap H) := by
    intro b o e
    refine seen (KX b o e) ?_
    rcases one b with z | ⟨rfl, z, _⟩
    · exact z
    · rw [z] at e; cases e
  obtain ⟨mc, l1, l2⟩ := hlim
  have M : Mod K mg (hidT s1.heap H) := { kin := KB, glob := up hns, blt := ⟨mb, up hb, hbb⟩, nolimit := ⟨mc, up l1, l2⟩ }
  have e0 : Env0 P w K mg (hidT s1.heap H) callerA [] s1 H :=
    { frames := rfl, mod := M, bs := fun b o e => of_hidT e, bsz := Nat.le_of_eq (hidT_size _ _), funs := trivial, frf := fun b z => (by cases (show b ∈ ([] : List Addr) from z)), hok := hok, bare := .of_eq hg }
  refine codeAny_mono ((F _ KB (up hns)).go callerA [] s1 H ⟨[.ref a], []⟩ [.ref a] [.ref a] _ _ rfl hr e0 (bind s1 (.ref a)) (.cons rfl .nil) hsp) ?_
  intro r s' h
  match r, h with
  | .ok (.ret u), ⟨v, H', os, bare, un, hok', rv, hv⟩ =>
    obtain rfl : v = .bl true := hv
    obtain rfl : u = Value.bool true := rv
    refine ⟨rfl, OldK.of_keep ?_, os, bare⟩
    intro b o e
    rcases one b with z | ⟨rfl, _, oo, ys, z⟩
    · exact un.keep b o e z (fun q => (by cases (show b ∈ ([] : List Addr) from q))) (fun q => nomatch q)
    · have e1 := (hok b _ z).1
      have e2 := (hok' b _ (un.frzs b oo _ z)).1
      rw [e] at e1
      obtain rfl :=
            Option.some.inj e1
      exact e2
theorem goes (KX : K.In s1.heap) (hns : s1.heap.Ns mainGlobals mg) (hb : s1.heap.Ns builtinsNs mb) (hbb : ∀ y : Str, y ≠ "__name__" → mb y = bootBuiltins y) (hlim : s1.heap.NoLimit) (hg : s1.gens = #[])
    (ha : s1.heap.get? a = some { cls := .type "list", data := .seq vs.toArray }) (hi : IntsAre vs ns) (hl : ns.length ≤ sizeLine) (hr : Room k callerA)
    (F : ∀ base : Heap, K.In base → base.Ns mainGlobals mg → FnG P w K mg base CX0 k fa fd [x] sp) (bind : ∀ (s : Shared) (u : Value), BindsTo s fd ⟨[u], []⟩ [(x, u)])
    (hsp : ∀ H : Hp, SqL K H a (ns.map V.int) → sp [.ref a] H (fun v _ => v = .bl true) fun _ _ _ => False) : Goes fa a P w s1 := by
  have rv := vals_ints hi
  cases hk : K.lookup a with
  | some o =>
    have e := KX a o hk
    rw [ha] at e
    obtain rfl := Option.some.inj e
    refine goes_of (H := fun _ => none) KX hns hb hbb hlim hg ha hr F bind (fun b u z => nomatch z) (hsp _ (Or.inr ⟨_, vs.toArray, _, hk, rfl, rfl, rfl, ?_, ?_⟩)) (fun b => Or.inl rfl)
    · rw [List.size_toArray, hi.length]; exact hl
    · exact rv
  | none =>
    let o : Obj := { cls := .type "list", data := .seq vs.toArray }
    let H : Hp := upd (fun _ => none) a (.frz o (.lst (ns.map V.int)))
    have hH : H a = some (.frz o (.lst (ns.map V.int))) := upd_same
    refine goes_of (H := H) KX hns hb hbb hlim hg ha hr F bind ?_ (hsp H (Or.inl (Or.inr ⟨o, hH⟩))) ?_
    · intro b u z
      by_cases e : b = a
      · subst e
        rw [hH] at z
        obtain rfl := Option.some.inj z
        refine ⟨ha, ?_, vs, _, rv, ha⟩
        rw [List.length_map]
        exact hl
      · rw [show H b = none from upd_ne e] at z
        cases z
    · intro b
      by_cases e : b = a
      · exact Or.inr ⟨e, hk, o, _, by rw [e]; exact hH⟩
      · exact Or.inl (upd_ne e)
end
theorem walkG {l : PySem.W.OpenLaw} {n k : Nat} {q : Program} {loose : List Str} {XP : (Str → Option Value) → Heap → Prop} {YP : World → Heap → Prop} {d : DefRec} {K : Params → PySem.W.Frag} {sp : PySem.W.Frag → Sp} {x : Str}
    (hn : l.most = some n) (hn2 : n ≤ sizeLine) (hdf : d.params.defaults = []) (hr
          : Room k callerA) (hY : ∀ (w : World) (h : Heap), YP w h → (K w.params).In h)
    (F : ∀ (w : World) (mg : Str → Option Value) (fa : Addr) (h : Heap),
          (K w.params).In h → h.Ns mainGlobals mg → mg d.name = some (.ref fa) →
      ∃ fd : FuncData, (∀ (s : Shared) (u : Value), BindsTo s fd ⟨[u], []⟩ [(x, u)]) ∧ ∀ base : Heap, (K w.params).In base → base.Ns mainGlobals mg → FnG l.prog w (K w.params) mg base CX0 k fa fd [x] (sp (K w.params)))
    (hsp : ∀ (K : PySem.W.Frag) (H : Hp) (a : Addr) (ns : List Int), ns.length ≤ n → SqL K H a (ns.map V.int) → sp K [.ref a] H (fun v _ => v = .bl true) fun _ _ _ => False) :
    PySem.W.WalkO q loose XP YP l.row.toRowW
          d [] (fun f vs => PySem.call f vs) := by
  apply Att.attach_call hn hdf
  intro w s0 s1 mg mb fa o pm cd doc a vs ns G Y ho hd hcd hmg hobj hints hlen hg
  obtain ⟨fd, hb, hF⟩ := F w mg fa _ (hY w _ Y) G.T.g hmg
  exact goes (hY w _ Y) G.T.g G.T.b G.T.builtins G.T.nolimit hg hobj hints (Nat.le_trans hlen hn2) hr hF hb fun H hS => hsp _ H a ns hlen hS
end Ur

namespace Ur
open PySem L2
/-- the def of this name keeps this promise -/
def Has (P : Program) (w : World) (K : PySem.W.Frag) (mg : Str → Option Value) (base : Heap) (x : Str) (ps : List Str) (k : Nat) (sp : Sp) : Prop :=
  ∃ f fd, FnOk P w K mg base CX0 k f fd ps sp ∧ mg x = some (.ref f) ∧ PySem.W.keepIn K (.ref f) = true ∧ Binds K fd ps []
/-- the def stands there -/
def Fnd (K : PySem.W.Frag) (mg : Str → Option Value) (x : Str) (st : Stmt) (ps : List Str) : Prop :=
  ∃ f fd, Fun K x x st f fd ∧ mg x = some (.ref f) ∧ Binds K fd ps []
def KwAll (K : PySem.W.Frag) (fd : FuncData) (ps : List Str) : Prop := KBinds K fd ps ps (fun us ws => us ++ ws) (fun vs zs => vs ++ zs)
section
variable {X : Cx} {x : Str} {p pos : Pos} {e : Expr} {es : List Expr} {t tk : TA} {ps : List Str} {k : Nat} {sp : Sp} {kws : List Keyword}
theorem pe_has (h : Has X.prog X.w X.K X.mg X.base x ps k sp) (hr : Room k X.A) (hg : Gl X x) (ha : PA X (e :: es) t) (hdb : (x == ("__debug__" : Str)) = false := by decide)
    (he : starEach (e :: es) X.env = (false, eval e X.env) :: starEach es X.env :=
          by rfl) (hpl : (backTo pos (starEach es X.env)).any (·.1) = false := by rfl) :
    PE X (.Call (.Name x p) (e :: es) [] pos) (tCall sp [] E0 t) := by
  obtain ⟨f, fd, G, m, kp, b⟩ := h
  exact pe_call G hr hg m kp b .nil pass0 ha hdb he hpl
def tHasK (sp : Sp) (tk : TA) : TE := fun σ H Q => tk σ H fun zs H1 => sp zs H1 Q E0
/-- all arguments by name, in their order -/
theorem pe_hasK0 (h : ∃ f fd, FnOk X.prog X.w X.K X.mg X.base CX0 k f fd ps sp ∧ X.mg x = some (.ref f) ∧ PySem.W.keepIn X.K (.ref f) = true ∧ KwAll X.K fd ps) (hr : Room k X.A) (hg : Gl X x) (hkw : PK X kws tk)
    (hall : (backToKw pos (keywordEach kws X.env)).all (·.1.isSome) = true := by rfl) (hks : (backToKw pos (keywordEach kws X.env)).filterMap (·.1) = ps := by rfl) (hdb : (x == ("__debug__" : Str)) = false := by decide)
    (hpl : ((backTo pos (starEach [] X.env)).any (·.1) || (backToKw
          pos (keywordEach kws X.env)).any (·.1.isNone)) = false := by rfl) :
    PE X (.Call (.Name x p) [] kws pos) (tHasK sp tk) := by
  obtain ⟨f, fd, G, m, kp, b⟩ := h
  constructor
  intro pins s σ H Q I hq
  apply wpAny_Call_Name_kw
  apply ld_glob I hg m _ hdb
  apply PySem.W.callWith_KW0 (h₀ := X.base) I.ok.mod.kin kp hall _ hpl
  refine thn (hkw.run pos pins s σ H _ I hq) ?_
  rintro ws s2 ⟨zs, H2, I2, rz, q2⟩
  refine ⟨I2.kIn, ?_⟩
  rw [hks]
  exact run_fnk (us := []) (vs := []) G hr b pass0 I2 .nil rz q2
end
end Ur

namespace Ur
open PySem L2
theorem same_new {H : Hp} {p : Addr} {o : HO} (h : H p = none) : Same H (upd H p o) := fun a u e => by
  rw [upd_ne (ne_of_none e h)]
  exact e
/-- a list that H does not know may grow -/
theorem same_own {H H' : Hp} {p : Addr} {o : HO} (e : Same H H') (h : H p = none) : Same H (upd H' p o) := fun a u q => by
  rw [upd_ne (ne_of_none q h)]
  exact e a u q
theorem same_sqT {K : PySem.W.Frag} {H H' : Hp} {a : Addr} {xs : List V} (e : Same H H') (h : SqT K H a xs) : SqT K H' a xs := by
  rcases h with (h
        | ⟨o, h⟩) | h
  · exact Or.inl (Or.inl (e _ _ h))
  · exact Or.inl (Or.inr ⟨o, e _ _ h⟩)
  · exact Or.inr h
theorem map_at {ns : List Int} {i : Nat} {x : V} (h : (ns.map V.int)[i]? = some x) : ∃ z, ns[i]? = some z ∧ x = V.int z := by
  rw [List.getElem?_map] at h
  cases e : ns[i]? with
  | none => rw [e]
        at h; cases h
  | some z => rw [e] at h; exact ⟨z, rfl, (Option.some.inj h).symm⟩
/-- what a comprehension without a test has made behind i turns -/
structure Made (H : Hp) (Pe : Nat → V → Prop) (D : Addr) (i : Nat) (H' : Hp) : Prop where
  new : H D = none
  same : Same H H'
  held : ∃ ys, H' D = some (.lst ys) ∧ ys.length = i ∧ ∀ j y, ys[j]? = some y → Pe j y
theorem Made.start {H : Hp} {Pe : Nat → V → Prop} {D : Addr} (h : H D = none) : Made H Pe D 0 (upd H D (.lst [])) :=
  ⟨h, same_new h, [], upd_same, rfl, fun j y e => by simp at e⟩
theorem Made.turn {H H3 : Hp} {Pe : Nat → V → Prop} {D : Addr} {i : Nat} {te : TE} {σ2 : L2.St} (m : Made H Pe D i H3) (hi : i < 100000)
    (he : ∀ Q' : VK, (∀ y H4, Pe i y → Same H3 H4 → Q' y H4) → te σ2 H3 Q') :
    te σ2 H3 fun y H4 => ∃ acc, H4 D = some (.lst acc) ∧ acc.length < sizeLine ∧ Made H Pe D (i + 1) (upd H4 D (.lst (acc ++ [y]))) := by
  obtain ⟨hn, sm, ys, h1, h2, h3⟩ := m
  refine he _ fun y H4 py s4 => ⟨ys, s4 _ _ h1, Nat.lt_of_lt_of_le (by omega : ys.length < 100000) (by decide), hn, same_own (sm.trans s4) hn, ys ++ [y], upd_same, by simp [h2], fun j z e => ?_⟩
  by_cases hj : j < ys.length
  · rw [List.getElem?_append_left hj] at e
    exact h3 j z e
  · rw [List.getElem?_append_right (by omega)] at e
    have : j = i := by
      have hl := (List.getElem?_eq_some_iff.mp e).1
      simp at hl
      omega
    subst this
    rw [← h2, Nat.sub_self] at e
    obtain rfl := Option.some.inj e
    exact py
section
variable {K : PySem.W.Frag} {a : Addr} {xs : List V} {te : TE} {vs : List Nat} {j : Nat} {σ : L2.St} {H : Hp} {Q : VK}
/-- [elt for x in t], t a tuple -/
theorem lcT {tl : TE} (Pe : Nat → V → Prop) (hx : ∀ R : VK, R (.ref a) H → tl σ H R) (hs : SqT K H a xs) (hz : xs.length ≤ 100000) (hw : ∀ x, wipe ((wipe σ vs).set j (some x)) vs = wipe σ vs)
    (he : ∀ i x H3, xs[i]? = some x → Same H H3 → ∀ Q' : VK, (∀ y H4, Pe i y → Same H3 H4 → Q' y H4) → te ((wipe σ vs).set j (some x)) H3 Q')
    (hq : ∀ D ys H', H D = none → Same H H' → H' D = some (.lst ys) → ys.length = xs.length → (∀ i y, ys[i]? = some y → Pe i y) → Q (.ref D) H') : tLc (iTup K tl) (gName j) tYes te vs σ H Q := by
  refine hx _ ⟨a, rfl, ⟨xs, hs⟩, fun D hD => ?_⟩
  refine lc_tup (xs := xs) (Made H Pe D) (.start hD) (fun i H' _ m => same_sqT m.same hs) (fun i x H' hi m => ⟨hw x, ?_⟩) (fun H' ⟨hn, sm, ys, h1, h2, h3⟩ => hq D ys H' hn sm h1 h2 h3)
  have hl := (List.getElem?_eq_some_iff.mp hi).1
  unfold tYes
  dsimp only
  rw [if_pos rfl]
  exact (m.turn (by omega) (he i x H' hi m.same))
/-- [elt for x in l], l a list -/
theorem lcL {tl : TE} (Pe : Nat → V → Prop) (hx : ∀ R : VK, R (.ref a) H → tl σ H R) (hs : SqL K H a xs) (hz : xs.length ≤ 100000) (hw : ∀ x, wipe ((wipe σ vs).set j (some x)) vs = wipe σ vs)
    (he : ∀ i x H3, xs[i]? = some x → Same H H3 → ∀ Q' : VK, (∀ y H4, Pe i y → Same H3 H4 → Q' y H4) → te ((wipe σ vs).set j (some x)) H3 Q')
    (hq : ∀ D ys H', H D = none → Same H H' → H' D = some (.lst ys) → ys.length = xs.length → (∀ i y, ys[i]? = some y → Pe i y) → Q (.ref D) H') : tLc (iList K tl) (gName j) tYes te vs σ H Q := by
  refine hx _ ⟨a, rfl, ⟨xs, hs⟩, fun D hD => ?_⟩
  refine lc_list (xs := xs) (Made H Pe D) (.start hD) (fun i H' _ m => m.same.seq hs) (fun i x H' hi m => ⟨hw x, ?_⟩) (fun H' ⟨hn, sm, ys, h1, h2, h3⟩ => hq D ys H' hn sm h1 h2 h3)
  have hl := (List.getElem?_eq_some_iff.mp hi).1
  unfold tYes
  dsimp only
  rw [if_pos rfl]
  exact (m.turn (by omega) (he i x H' hi m.same))
/-- [elt for x in range(n)] -/
theorem lcR {ta : TA} {n : Int} {H0 : Hp} (Pe : Nat → V → Prop) (hx : ∀ R : List V → Hp → Prop, (∀ H1, Same H0 H1 → R [.int n] H1) → ta σ H0 R) (h0 : 0 ≤ n) (hz : n ≤ 100000) (hw : ∀ x, wipe ((wipe σ vs).set j (some x)) vs = wipe σ vs)
    (he : ∀ (i : Nat) H3, i < n → Same H0 H3 → ∀ Q' : VK, (∀ y H4, Pe i y → Same H3 H4 → Q' y H4) → te ((wipe σ vs).set j (some (.int (0 + (i : Int))))) H3 Q')
    (hq : ∀ D ys H', H0 D = none → Same H0 H' → H' D = some (.lst ys) → (ys.length : Int) = n → (∀ i y, ys[i]? = some y → Pe i y) → Q (.ref D) H') : tLc (iRng1 ta) (gName j) tYes te vs σ H0 Q := by
  refine hx _ fun H1 s1 => ⟨n, rfl, by omega, by omega, fun D hD => ?_⟩
  refine lc_range (lo := 0) (n := n.toNat) (Made H1 Pe D) (.start hD) (fun i H' hi m => ⟨hw _, ?_⟩) (fun H' ⟨hn, sm, ys, h1, h2, h3⟩ => hq D ys H' (s1.free hn) (s1.trans sm) h1 (by omega) h3)
  unfold tYes
  dsimp only
  rw [if_pos rfl]
  exact (m.turn (by omega) (he i H' (by omega) (s1.trans m.same)))
end
end Ur
namespace Ur
open PySem L2
/-- a statement and the rest, with a word of one's own between them -/
def tMid (t u : TS) : TS := fun D σ H => ∃ M : L2.St → Hp → Prop, t { D with nx := M } σ H ∧ ∀ σ' H', M σ' H' → u D σ' H'
theorem pss_mid {X : Cx} {st : Stmt} {rest : List Stmt} {t u : TS} (h1 : PS X st t) (h2 : PSs X rest u) : PSs X (st :: rest) (tMid t u) := by
  constructor
  intro pins s σ H D I hw
  obtain ⟨M, hm, hu⟩ := hw
  apply wpAny_execs_cons
  refine thn (h1.run pins s σ H { D with nx := M } I hm) ?_
  intro f s1 q
  match f, q with
  | .next, ⟨σ', H', I', q⟩ => exact h2.run pins s1 σ' H' D I' (hu σ' H' q)
  | .ret v, q => exact q
  | .brk, q => exact q
  | .cont, q => exact q
theorem seq_of {t u : TS} {D : Ends} {σ : L2.St} {H : Hp} (h : t { D with nx := u D } σ H) : tSeq t u D σ H := h
theorem asg_of {te : TE} {g : TG} {D : Ends} {σ : L2.St} {H : Hp} (h : te σ H fun x H1 => g x σ H1 D.nx) : tAsg te g D σ H := h
theorem ixN_nat {n j : Nat} (h : j < n) : ixN n (j : Int) = some j := by
  unfold ixN
  rw [if_pos (by omega),
        if_pos (by omega)]
  rfl
end Ur

namespace Ur
open PySem L2
/-! ### values of any kind -/
inductive Kd where
  | non | bool | int | str | lst | tup | dic
  deriving DecidableEq
def Kd.nm : Kd → String
  | .non => "NoneType" | .bool => "bool" | .int => "int" | .str => "str" | .lst => "list" | .tup => "tuple" | .dic => "dict"
theorem kd_int (k : Kd) : kitB k.nm "int" = some (k == .int || k == .bool) := by cases k <;> decide +kernel
theorem kd_bool (k : Kd) : kitB k.nm "bool" = some (k == .bool) := by cases k <;> decide +kernel
theorem kd_tup (k : Kd) : kitB k.nm "tuple" = some (k == .tup) := by cases k <;> decide +kernel
def OfKd (K : PySem.W.Frag) (H : Hp) (x : V) (k : Kd) : Prop := TyX K H x (.type k.nm)
def wh : V → Bool
  | .int _ => true
  | _ => false
theorem nm_inj {k l : Kd} (h : k.nm = l.nm) : k = l := by
  cases k <;> cases l <;> first | rfl | (exact absurd h (by decide))
theorem ofKd_wh {K : PySem.W.Frag} {H : Hp} {x : V} {k : Kd} (h : OfKd K H x k) : (k == .int) = wh x := by
  have no : ∀ l : Kd, l ≠ .int → Value.type k.nm = Value.type l.nm → (k == Kd.int) = false := fun l hl e => by
    have : k = l := nm_inj (by injection e)
    subst this
    exact beq_eq_false_iff_ne.mpr hl
  have yes : Value.type k.nm = Value.type Kd.int.nm → (k == Kd.int) = true := fun e => by
    have : k = .int := nm_inj (by injection e)
    subst this
    rfl
  unfold OfKd at h
  generalize ht : Value.type k.nm = t at h
  cases h with
  | base b =>
    cases b with
    | non => exact no .non (by decide) ht
    | bl y => exact no .bool (by decide) ht
    | int i => exact yes ht
    | str y => exact no .str (by decide) ht
    | flt y =>
      have e : k.nm = "float" := by injection ht
      cases k <;> exact absurd e (by decide)
    | lst e => exact no .lst (by decide) ht
    | frz e => exact no .lst (by decide) ht
    | tup e => exact no .tup (by decide) ht
    | dK e => exact no .dic (by decide) ht
    | dT e => exact no .dic (by decide) ht
    | ins e _ _ _ _ _ => cases ht
  | byt y =>
    have e : k.nm = "bytes" := by injection ht
    cases k <;> exact absurd e (by decide)
  | set e =>
    have e : k.nm = "set" := by injection ht
    cases k <;> exact absurd e (by decide)
  | kList e c => exact no .lst (by decide) ht
  | kTuple e c => exact no .tup (by decide) ht
  | kDict e c => exact no .dic (by decide) ht
  | fTuple e => exact no .tup (by decide) ht
  | fDict e => exact no .dic (by decide) ht
theorem ofKd_same {K : PySem.W.Frag} {H H' : Hp} {x : V} {k : Kd} (s : Same H H') (h : OfKd K H x k) : OfKd K H' x k := by
  unfold OfKd at h ⊢
  generalize Value.type k.nm = t at h ⊢
  cases h with
  | base b =>
    refine .base ?_
    cases b with
    | non => exact .non
    | bl y => exact .bl y
    | int i => exact .int i
    | str y => exact .str y
    | flt y => exact .flt y
    | lst e => exact .lst (s _ _ e)
    | frz e => exact .frz (s _ _ e)
    | tup e => exact .tup (s _ _ e)
    | dK e => exact .dK (s _ _ e)
    | dT e => exact .dT (s _ _ e)
    | ins e a b c d f => exact .ins (s _ _ e) a b c d f
  | byt y => exact .byt y
  | set e => exact .set (s _ _ e)
  | kList e c => exact .kList e c
  | kTuple e c => exact .kTuple e c
  | kDict e c => exact .kDict e c
  | fTuple e => exact .fTuple (s _ _ e)
  | fDict e => exact .fDict (s _ _ e)
theorem tup_kd {K : PySem.W.Frag} {H : Hp} {a : Addr} {xs : List V} (h : SqT K H a xs) : OfKd K H (.ref a) .tup := by
  rcases h with (h | ⟨o, h⟩) | ⟨o, its, n, h, c, _⟩
  · exact .base (.tup h)
  · exact .fTuple h
  · exact .kTuple h c
theorem all_wh : ∀ {xs : List V}, xs.all wh = true → ∃ ns : List Int, xs = ns.map V.int
  | [], _ => ⟨[], rfl⟩
  | x :: r, h => by
    rw [List.all_cons,
          Bool.and_eq_true] at h
    obtain ⟨ns, rfl⟩ := all_wh h.2
    cases x with
    | int i => exact ⟨i :: ns, rfl⟩
    | _ => exact absurd h.1 (by simp [wh])
theorem ints_wh (ns : List Int) : (ns.map V.int).all wh = true := by
  rw [List.all_map]
  exact List.all_eq_true.mpr
        fun _ _ => rfl
mutual
theorem dp_same {K : PySem.W.Frag} {H H' : Hp} (s : Same H H') : ∀ {v : V} {d : PyData}, Dp K H v d → Dp K H' v d
  | _, _, .non => .non
  | _, _, .bl b => .bl b
  | _, _, .int i => .int i
  | _, _, .str x => .str x
  | _, _, .lst h1 h2 => .lst (s.seq h1) (dpAll_same s h2)
  | _, _, .tup h1 h2 => .tup (same_sqT s h1) (dpAll_same s h2)
theorem dpAll_same {K : PySem.W.Frag} {H H' : Hp} (s : Same H H') : ∀ {vs : List V} {ds : List PyData}, DpAll K H vs ds → DpAll K H' vs ds
  | _, _, .nil => .nil
  | _, _, .cons h1 h2 => .cons (dp_same s h1) (dpAll_same s h2)
end
/-- an item of such a tuple -/
structure It (K : PySem.W.Frag) (H : Hp) (y : V) : Prop where
  kd : ∃ l, OfKd K H y l
  dat : ∃ d, Dp K H y d ∧ d.canLay0 = true ∧ d.depth ≤ 8
theorem It.same {K : PySem.W.Frag} {H H' : Hp} {y : V} (s : Same H H') (h : It K H y) : It K H' y :=
  ⟨let ⟨l, a⟩ := h.kd; ⟨l, ofKd_same s a⟩, let ⟨d, a, b⟩ := h.dat; ⟨d, dp_same s a, b⟩⟩
/-- a value of any kind, seen as an argument: its kind, and its items if it is a tuple -/
structure Arg (K : PySem.W.Frag) (H : Hp) (x : V) (k : Kd) (xs : List V) : Prop where
  ty : OfKd K H x k
  its : k = .tup → ∃ a, x = .ref a ∧ SqT K H a xs ∧ xs.length ≤ 1000 ∧ (∀ y ∈ xs, It K H y) ∧ ∀ i, V.int i ∈ xs → i.natAbs < 2 ^ 9000
theorem Arg.same {K : PySem.W.Frag} {H H' : Hp} {x : V} {k : Kd} {xs : List V} (s : Same H H') (A : Arg K H x k xs) : Arg K H' x k xs :=
  ⟨ofKd_same s A.ty, fun e => let ⟨a, e1, e2, e3, e4, e5⟩ := A.its e; ⟨a, e1, same_sqT s e2, e3, fun y hy => (e4 y hy).same s, e5⟩⟩
/-! ### tuples of ints as data -/
theorem dpAll_ints {K : PySem.W.Frag} {H : Hp} : ∀ ns : List Int, DpAll K H (ns.map V.int) (ns.map PyData.int)
  | [] => .nil
  | n :: r => .cons (.int n) (dpAll_ints r)
theorem dp_ints {K : PySem.W.Frag} {H : Hp} {a : Addr} {ns : List Int} (h : SqT K H a (ns.map V.int)) : Dp K H (.ref a) (.tuple (ns.map PyData.int)) := .tup h (dpAll_ints ns)
theorem lay_ints : ∀ ns : List Int, PyData.canLayAll0 (ns.map PyData.int) = true
  | [] => rfl
  | _ :: r => by
    show (true && PyData.canLayAll0 (r.map PyData.int)) = true
    rw [lay_ints r]
    rfl
theorem depth_ints : ∀ ns : List Int, PyData.depthAll (ns.map PyData.int) = 0
  | [] => rfl
  | _ :: r => by
    show max 0 (PyData.depthAll (r.map PyData.int)) = 0
    rw [depth_ints r]
    rfl
theorem shaped_ints (ns : List Int) : SeqAt.shaped (.tuple (ns.map PyData.int)) = true := by
  unfold SeqAt.shaped
  show (PyData.canLayAll0 _ && decide (PyData.depthAll _ + 1 ≤ 64)) = true
  rw [lay_ints, depth_ints]
  rfl
theorem eqvAll_ints : ∀ a b : List Int, PyData.eqvAll (a.map PyData.int) (b.map PyData.int) = decide (a = b)
  | [], [] => rfl
  | [], _ :: _ =>
        by simp [PyData.eqvAll]
  | _ :: _, [] =>
        by simp [PyData.eqvAll]
  | x :: a, y :: b => by
    show ((x == y) && PyData.eqvAll (a.map PyData.int) (b.map PyData.int)) = _
    rw [eqvAll_ints a b]
    by_cases e : x = y
    · subst e; simp
    · simp [e]
theorem eqv_ints (a b : List Int) : PyData.eqv (.tuple (a.map PyData.int)) (.tuple (b.map PyData.int)) = decide (a = b) := eqvAll_ints a b
/-- a list of such items as data -/
theorem its_dat {K : PySem.W.Frag} {H : Hp} : ∀ {ys : List V}, (∀ y ∈ ys, It K H y) → ∃ ds, DpAll K H ys ds ∧ PyData.canLayAll0 ds = true ∧ PyData.depthAll ds ≤ 8 ∧ ds.length = ys.length
  | [], _ => ⟨[], .nil, rfl, by decide, rfl⟩
  | y :: r, h => by
    obtain ⟨d, h1, h2, h3⟩ := (h y List.mem_cons_self).dat
    obtain ⟨ds, g1, g2, g3, g4⟩ := its_dat (ys := r) fun z hz => h z (List.mem_cons_of_mem _ hz)
    refine ⟨d :: ds, .cons h1 g1, ?_, ?_, by simp [g4]⟩
    · show (PyData.canLay0 d && PyData.canLayAll0 ds) = true
      rw [h2, g2]
      rfl
    · show max (PyData.depth d) (PyData.depthAll ds) ≤ 8
      omega
/-- a comprehension with a test that keeps items as they are -/
structure Kept (H : Hp) (xs : List V) (f : V → Bool) (D : Addr) (i : Nat) (H' : Hp) : Prop where
  new : H D = none
  same : Same H H'
  held : H' D = some (.lst ((xs.take i).filter f))
theorem lcTf {K : PySem.W.Frag} {a : Addr} {xs : List V} {tl te : TE} {tt : TT} {vs : List Nat} {j : Nat} {σ : L2.St} {H : Hp} {Q : VK} (f : V → Bool) (hx : ∀ R : VK, R (.ref a) H → tl σ H R) (hs : SqT K H a xs) (hz : xs.length ≤ 100000)
    (hw : ∀ x, wipe ((wipe σ vs).set j (some x)) vs = wipe σ vs)
    (ht : ∀ (i : Nat) (x : V) (H3 : Hp), xs[i]? = some x → Same H H3 → ∀ Q' : Bool → Hp → Prop, (∀ H4, Same H3 H4 → Q' (f x) H4) → tt ((wipe σ vs).set j (some x)) H3 Q')
    (he : ∀ (i : Nat) (x : V) (H3 : Hp), xs[i]? = some x → Same H H3 → ∀ Q' : VK, Q' x H3 → te ((wipe σ vs).set j (some x)) H3 Q')
    (hq : ∀ D H', H D = none → Same H H' → H' D = some (.lst (xs.filter f)) → Q (.ref D) H') : tLc (iTup K tl) (gName j) tt te vs σ H Q := by
  refine hx _ ⟨a, rfl, ⟨xs, hs⟩, fun D hD => ?_⟩
  refine lc_tup (xs := xs) (Kept H xs f D) ⟨hD, same_new hD, upd_same⟩ (fun i H' _ m => same_sqT m.same hs) (fun i x H' hi m => ⟨hw x, ?_⟩) (fun H' m => hq D H' m.new m.same (by have := m.held; rwa [List.take_length] at this))
  have hl := (List.getElem?_eq_some_iff.mp hi).1
  have e1 : xs.take (i + 1) = xs.take i ++ [x] := by
    obtain ⟨_, rfl⟩ := List.getElem?_eq_some_iff.mp hi
    exact List.take_succ_eq_append_getElem hl
  refine ht i x H' hi m.same _ fun H4 s4 => ?_
  cases hf : f x with
  | true =>
    rw [if_pos rfl]
    refine he i x H4 hi (m.same.trans s4) _ ⟨_, s4 _ _ m.held, ?_, m.new, same_own (m.same.trans s4) m.new, ?_⟩
    · have := List.length_filter_le f (xs.take i)
      rw [List.length_take] at this
      exact Nat.lt_of_lt_of_le (by omega : _ < 100001) (by decide)
    · rw [upd_same, e1, List.filter_append, List.filter_cons, if_pos hf]
      rfl
  | false =>
    rw [if_neg
          Bool.false_ne_true]
    refine ⟨m.new, m.same.trans s4, ?_⟩
    rw [e1, List.filter_append, List.filter_cons, if_neg (by rw [hf]; decide)]
    show _ = some (HO.lst (_ ++ []))
    rw [List.append_nil]
    exact s4 _ _ m.held
end Ur
namespace Ur
open PySem L2
section
variable {te : TE} {vs : List Nat} {j : Nat} {σ : L2.St} {Q : VK}
/-- [elt for x in range(n)], n drawn -/
theorem lcRn {ta : TA} {H0 : Hp} (Pn : Int → Prop) (Pe : Int → Nat → V → Prop) (hx : ∀ R : List V → Hp → Prop, (∀ n H1, Pn n → Same H0 H1 → R [.int n] H1) → ta σ H0 R) (hb : ∀ n, Pn n → 0 ≤ n ∧ n ≤ 100000)
    (hw : ∀ x, wipe ((wipe σ vs).set j (some x)) vs = wipe σ vs)
    (he : ∀ (n : Int) (i : Nat) (H3 : Hp), Pn n → i < n → Same H0 H3 → ∀ Q' : VK, (∀ y H4, Pe n i y → Same H3 H4 → Q' y H4) → te ((wipe σ vs).set j (some (.int (0 + (i : Int))))) H3 Q')
    (hq : ∀ n D ys H', Pn n → H0 D = none → Same H0 H' → H' D = some (.lst ys) → (ys.length : Int) = n → (∀ i y, ys[i]? = some y → Pe n i y) → Q (.ref D) H') : tLc (iRng1 ta) (gName j) tYes te vs σ H0 Q := by
  refine hx _ fun n H1 pn s1 => ⟨n, rfl, by have := hb n pn; omega, by have := hb n pn; omega, fun D hD => ?_⟩
  have hn := hb n pn
  refine lc_range (lo := 0) (n := n.toNat) (Made H1 (Pe n) D) (.start hD) (fun i H' hi m => ⟨hw _, ?_⟩) (fun H' ⟨hn, sm, ys, h1, h2, h3⟩ => hq n D ys H' pn (s1.free hn) (s1.trans sm) h1 (by omega) h3)
  unfold tYes
  dsimp only
  rw [if_pos rfl]
  exact m.turn (by omega) (he n i H' pn (by omega) (s1.trans m.same))
end
end Ur
namespace Ur
open PySem L2
/-- the def of this name keeps this promise where no repr runs around it -/
def HasG (P : Program) (w : World) (K : PySem.W.Frag) (mg : Str → Option Value) (base : Heap) (x : Str) (ps : List Str) (k : Nat) (sp : Sp) : Prop :=
  ∃ f fd, FnG P w K mg base CX0 k f fd ps sp ∧ mg x = some (.ref f) ∧ PySem.W.keepIn K (.ref f) = true ∧ Binds K fd ps []
def HasK (P : Program) (w : World) (K : PySem.W.Frag) (mg : Str → Option Value) (base : Heap) (x : Str) (ps : List Str) (k : Nat) (sp : Sp) : Prop :=
  ∃ f fd, FnOk P w K mg base CX0 k f fd ps sp ∧ mg x = some (.ref f) ∧ PySem.W.keepIn K (.ref f) = true ∧ KwAll K fd ps
theorem pe_hasG {X : Cx} {x : Str} {p pos : Pos} {e : Expr} {es : List Expr} {t : TA} {ps : List Str} {k : Nat} {sp : Sp} (h : HasG X.prog X.w X.K X.mg X.base x ps k sp) (hgu : X.A.guards = some []) (hr : Room k X.A) (hg : Gl X x)
    (ha : PA X (e :: es) t) (hdb : (x == ("__debug__" : Str)) = false := by decide) (he : starEach (e :: es) X.env = (false, eval e X.env) :: starEach es X.env := by rfl)
    (hpl : (backTo pos (starEach es X.env)).any (·.1) = false := by rfl) : PE X (.Call (.Name x p) (e :: es) [] pos) (tCall sp [] E0 t) := by
  obtain ⟨f, fd, G, m, kp, b⟩ := h
  exact callG G hgu hr hg m kp b pass0 ha hdb he hpl
def FndK (K : PySem.W.Frag) (mg : Str → Option Value) (x : Str) (st : Stmt) (ps : List Str) : Prop :=
  ∃ f fd, Fun K x x st f fd ∧ mg x = some (.ref f) ∧ Binds K fd ps [] ∧ KwAll K fd ps
section
variable {P : Program} {w : World} {K : PySem.W.Frag} {mg : Str → Option Value} {base : Heap} {x : Str} {st : Stmt} {ps : List Str} {k : Nat} {sp : Sp}
theorem Fnd.has (D : Fnd K mg x st ps) (h : ∀ {f fd}, Fun K x x st f fd → FnOk P w K mg base CX0 k f fd ps sp) : Has P w K mg base x ps k sp := by
  obtain ⟨f, fd, F, m, b⟩ := D
  exact ⟨f, fd, h F, m, F.kp, b⟩
theorem Fnd.hasG (D : Fnd K mg x st ps) (h : ∀ {f fd}, Fun K x x st f fd → FnG P w K mg base CX0 k f fd ps sp) : HasG P w K mg base x ps k sp := by
  obtain ⟨f, fd, F, m, b⟩ := D
  exact ⟨f, fd, h F, m, F.kp, b⟩
theorem FndK.fnd (D : FndK K mg x st ps) : Fnd K mg x st ps := by
  obtain ⟨f, fd, F, m, b, _⟩ := D
  exact ⟨f, fd, F, m, b⟩
theorem FndK.hasK (D : FndK K mg x st ps) (h : ∀ {f fd}, Fun K x x st f fd → FnOk P w K mg base CX0 k f fd ps sp) : HasK P w K mg base x ps k sp := by
  obtain ⟨f, fd, F, m, _, b⟩ := D
  exact ⟨f, fd, h F, m, F.kp, b⟩
end
section
variable {K : PySem.W.Frag} {h : Heap} {mg : Str → Option Value} {x : Str} {st : Stmt} {ps : List Str} {f : Addr} {oc kV dc pm cd ct : Value} {od an : Option Addr} {sl : Array (Option Value)}
theorem fnd_mk (X : K.In h) (G : h.Ns mainGlobals mg) (a : PySem.W.nsIn K mainGlobals x = some (some (.ref f))) (l : K.lookup f = some ⟨oc, od, .func (PySem.W.fnOf x x (defArgs st) (defBody st) (defScope st) .none kV dc pm an cd ct), sl⟩)
    (c : PySem.W.codeIn K cd x = true) (k : PySem.W.keepIn K (.ref f) = true)
    (hb : ∀ (kV doc pm : Value) (an : Option Addr) (cdv ct : Value) (us : List Value), us.length = ps.length → bindArgs (PySem.W.fnOf x x (defArgs st) (defBody st) (defScope st) .none kV doc pm an cdv ct) ⟨us, []⟩ = pure (ps.zip us)) : Fnd K mg x st ps :=
  have F := fun_mk l c k
  ⟨f, _, F, PySem.W.mg_of X G a, F.binds hb⟩
theorem fndK_mk (X : K.In h) (G : h.Ns mainGlobals mg) (a : PySem.W.nsIn K mainGlobals x = some (some (.ref f))) (l : K.lookup f = some ⟨oc, od, .func (PySem.W.fnOf x x (defArgs st) (defBody st) (defScope st) .none kV dc pm an cd ct), sl⟩)
    (c : PySem.W.codeIn K cd x = true) (k : PySem.W.keepIn K (.ref f) = true)
    (hb : ∀ (kV doc pm : Value) (an : Option Addr) (cdv ct : Value) (us : List Value), us.length = ps.length → bindArgs (PySem.W.fnOf x x (defArgs st) (defBody st) (defScope st) .none kV doc pm an cdv ct) ⟨us, []⟩ = pure (ps.zip us))
    (hk : ∀ (kV doc pm : Value) (an : Option Addr) (cdv ct : Value) (us ws : List Value), (us ++ ws).length = ps.length → bindArgs (PySem.W.fnOf x x (defArgs st) (defBody st) (defScope st) .none kV doc pm an cdv ct) ⟨us, ps.zip ws⟩ = pure (ps.zip (us ++ ws))) : FndK K mg x st ps :=
  have F := fun_mk l c k
  ⟨f, _, F, PySem.W.mg_of X G a, F.binds hb, ⟨fun _ us ws _ hl => .of_eq (hk _ _ _ _ _ _ us ws hl), fun a b => a.append b⟩⟩
end
end Ur
namespace Ur
theorem one_split {α : Type} {us ws : List α} (h : (us ++ ws).length = 1) : (∃ v, us = [] ∧ ws = [v]) ∨ ∃ v, us = [v] ∧ ws = [] := by
  match us, ws, h with
  | [], [v], _ => exact Or.inl ⟨v, rfl, rfl⟩
  | [v], [], _ => exact Or.inr ⟨v, rfl, rfl⟩
  | [], _ :: _ :: _, h => exact absurd h (by simp)
  | [_], _ :: _, h => exact absurd h (by simp)
  | _ :: _ :: _, _, h => exact absurd h (by simp)
end Ur

namespace Ur
open PySem L2
/-! ### calls by name, the names the other way round -/
def HasR (P : Program) (w : World) (K : PySem.W.Frag) (mg : Str → Option Value) (base : Heap) (x : Str) (ps : List Str) (k : Nat) (sp : Sp) : Prop :=
  ∃ f fd, FnOk P w K mg base CX0 k f fd ps sp ∧ mg x = some (.ref f) ∧ PySem.W.keepIn K (.ref f) = true ∧ ∀ (s : Shared) (ws : List Value), K.In s.heap → ws.length = ps.length → BindsTo s fd ⟨[], ps.reverse.zip ws⟩ (ps.zip ws.reverse)
def tHasR (sp : Sp) (tk : TA) : TE := fun σ H Q => tk σ H fun zs H1 => sp zs.reverse H1 Q E0
theorem vals_rev {vs : List V} {us : List Value} (h : Vals vs us) : Vals vs.reverse us.reverse := by
  induction h with
  | nil => exact .nil
  | cons a b ih =>
    rw [List.reverse_cons,
          List.reverse_cons]
    exact ih.append (.cons a .nil)
theorem pe_hasR0 {X : Cx} {x : Str} {p pos : Pos} {tk : TA} {ps : List Str} {k : Nat} {sp : Sp} {kws : List Keyword} (h : HasR X.prog X.w X.K X.mg X.base x ps k sp) (hr : Room k X.A) (hg : Gl X x) (hkw : PK X kws tk)
    (hall : (backToKw pos (keywordEach kws X.env)).all (·.1.isSome) = true := by rfl) (hks : (backToKw pos (keywordEach kws X.env)).filterMap (·.1) = ps.reverse := by rfl) (hdb : (x == ("__debug__" : Str)) = false := by decide)
    (hpl : ((backTo pos (starEach [] X.env)).any (·.1) || (backToKw pos (keywordEach kws X.env)).any (·.1.isNone)) = false := by rfl) : PE X (.Call (.Name x p) [] kws pos) (tHasR sp tk) := by
  obtain ⟨f, fd, G, m, kp, b⟩ := h
  constructor
  intro pins s σ H Q I hq
  apply wpAny_Call_Name_kw
  apply ld_glob I hg m _ hdb
  apply PySem.W.callWith_KW0 (h₀ := X.base) I.ok.mod.kin kp hall _ hpl
  refine thn (hkw.run pos pins s σ H _ I hq) ?_
  rintro ws s2 ⟨zs, H2, I2, rz, q2⟩
  refine ⟨I2.kIn, ?_⟩
  rw [hks]
  have rr := vals_rev rz
  have hl : ws.length = ps.length := by
    rw [← List.length_reverse (as := ws), ← rr.length]
    exact G.len _ _ _ _ q2
  apply wpAny_call
  refine codeAny_mono (G.run X.A X.stack s2 H2 ⟨[], ps.reverse.zip ws⟩ ws.reverse zs.reverse Q E0 hr I2.env0 (b s2 ws I2.kIn hl) rr q2) ?_
  intro res s' hq
  match res, hq with
  | .error e, hq => exact pass0 pins σ H2 s2 e s' I2 hq
  | .ok (.ret u), hq => exact I2.after hq
/-- some arguments by position, the others by name -/
def HasN (P : Program) (w : World) (K : PySem.W.Frag) (mg : Str → Option Value) (base : Heap) (x : Str) (ps : List Str) (n : Nat) (ks : List Str) (k : Nat) (sp : Sp) : Prop :=
  ∃ f fd, FnOk P w K mg base CX0 k f fd ps sp ∧ mg x = some (.ref f) ∧ PySem.W.keepIn K (.ref f) = true ∧ KBn K fd ps n ks (fun us ws => us ++ ws.reverse) (fun vs zs => vs ++ zs.reverse)
theorem pe_hasN {X : Cx} {x : Str} {p pos : Pos} {e : Expr} {es : List Expr} {t tk : TA} {ps ks : List Str} {n k : Nat} {sp : Sp} {kws : List Keyword} (h : HasN X.prog X.w X.K X.mg X.base x ps n ks k sp) (hr : Room k X.A) (hg : Gl X x)
    (ha : PA X (e :: es) t) (hkw : PK X kws tk) (hall : (backToKw pos (keywordEach kws X.env)).all (·.1.isSome)
          = true := by rfl) (hks : (backToKw pos (keywordEach kws X.env)).filterMap (·.1) = ks := by rfl)
    (hdb : (x == ("__debug__" : Str)) = false := by decide) (he : starEach
          (e :: es) X.env = (false, eval e X.env) :: starEach es X.env := by rfl)
    (hpl : ((backTo pos (starEach (e :: es) X.env)).any (·.1) || (backToKw
          pos (keywordEach kws X.env)).any (·.1.isNone)) = false := by rfl) :
    PE X (.Call (.Name x p) (e :: es) kws pos) (tCallN n ks.length sp (fun vs zs => vs ++ zs.reverse) E0 t tk) := by
  obtain ⟨f, fd, G, m, kp, b⟩ := h
  exact pe_callN G hr hg m kp b pass0 ha hkw hall hks hdb he hpl
/-! ### tuples of ints -/
def Tp (K : PySem.W.Frag) (H : Hp) (v : V) (ns : List Int) : Prop := ∃ a, v = .ref a ∧ SqT K H a (ns.map V.int)
theorem Tp.same {K : PySem.W.Frag} {H H' : Hp} {v : V} {ns : List Int} (s : Same H H') (h : Tp K H v ns) : Tp K H' v ns := by
  obtain ⟨a, e, h⟩ := h
  exact ⟨a, e, same_sqT s h⟩
theorem Tp.dp {K : PySem.W.Frag} {H : Hp} {v : V} {ns : List Int} (h : Tp K H v ns) : Dp K H v (.tuple (ns.map PyData.int)) := by
  obtain ⟨a, rfl, h⟩ := h
  exact dp_ints h
def sp1 (K : PySem.W.Frag) (pre : List Int → Prop) (f : List Int → List Int) : Sp := fun vs H Q _ => ∃ (v : V) (a : List Int), vs = [v] ∧ Tp K H v a ∧ pre a ∧ ∀ p H', Same H H' → Tp K H' p (f a) → Q p H'
def sp2 (K : PySem.W.Frag) (pre : List Int → List Int → Prop) (f : List Int → List Int → List Int) : Sp := fun vs H Q _ => ∃ (v w : V) (a b : List Int), vs = [v, w] ∧ Tp K H v a ∧ Tp K H w b ∧ pre a b ∧ ∀ p H', Same H H' → Tp K H' p (f a b) → Q p H'
def sp3 (K : PySem.W.Frag) (pre : List Int → List Int → List Int → Prop) (f : List Int → List Int → List Int → List Int) : Sp := fun vs H Q _ =>
  ∃ (v w z : V) (a b c : List Int), vs = [v, w, z] ∧ Tp K H v a ∧ Tp K H w b ∧ Tp K H z c ∧ pre a b c ∧ ∀ p H', Same H H' → Tp K H' p (f a b c) → Q p H'
end Ur
namespace Ur
open PySem L2
/-! ### texts of lists of such tuples, of ints -/
def tupD (ns : List Int) : PyData := .tuple (ns.map PyData.int)
structure IntsOk (ds : List PyData) (n : Nat) : Prop where
  ls : PyData.leavesShortAll 13 ds = true
  wt : PyData.weightAll ds ≤ n
  sh : PyData.showableAll ds = true
  hd : PyData.hasDictAll ds = false
  dp : PyData.depthAll ds ≤ 1
theorem log40 {n : Nat} (h : n < 10 ^ 12) : n.log2 + 1 ≤ 40 := by
  by_cases z : n = 0
  · subst z; decide
  · have : n.log2 < 40 := (Nat.log2_lt z).mpr (Nat.lt_of_lt_of_le h (by decide))
    omega
theorem ints_ok : ∀ {ns : List Int}, (∀ n ∈ ns, n.natAbs < 10 ^ 12) → IntsOk (ns.map PyData.int) (41 * ns.length)
  | [], _ => ⟨rfl, Nat.le_refl _, rfl, rfl, Nat.zero_le _⟩
  | n :: r, h => by
    have hn := h n List.mem_cons_self
    obtain ⟨a, b, c, d, e⟩ := ints_ok (ns := r) fun m hm => h m (List.mem_cons_of_mem _ hm)
    have l := log40 hn
    refine ⟨?_, ?_, ?_, ?_, ?_⟩
    · show (decide ((PyData.shown (.int n)).length ≤ 13) && PyData.leavesShortAll 13 (r.map PyData.int)) = true
      rw [a, decide_eq_true (PyData.shown_int_le hn)]
      rfl
    · show (if n == 0 then 0 else n.natAbs.log2 + 1) + 1 + PyData.weightAll (r.map PyData.int) ≤ 41 * (r.length + 1)
      split <;> omega
    · show (decide (n.natAbs.log2 < 1920) && PyData.showableAll (r.map PyData.int)) = true
      rw [c, decide_eq_true (by omega)]
      rfl
    · show (false || PyData.hasDictAll (r.map PyData.int)) = false
      rw [d]
      rfl
    · show max 0 (PyData.depthAll (r.map PyData.int)) ≤ 1
      omega
theorem tups_ok : ∀ {nss : List (List Int)}, (∀ ns ∈ nss, ns.length ≤ 10 ∧ ∀ n ∈ ns, n.natAbs < 10 ^ 12) → IntsOk (nss.map tupD) (411 * nss.length)
  | [], _ => ⟨rfl, Nat.le_refl _, rfl, rfl, Nat.zero_le _⟩
  | ns :: r, h => by
    obtain ⟨hl, hn⟩ := h ns List.mem_cons_self
    obtain ⟨a, b, c, d, e⟩ := tups_ok (nss := r) fun m hm => h m (List.mem_cons_of_mem _ hm)
    obtain ⟨a', b', c', d', e'⟩ := ints_ok hn
    refine ⟨?_, ?_, ?_, ?_, ?_⟩
    · show (PyData.leavesShortAll 13 (ns.map PyData.int) && PyData.leavesShortAll 13 (r.map tupD)) = true
      rw [a, a']
      rfl
    · show PyData.weightAll (ns.map PyData.int) + 1 + PyData.weightAll (r.map tupD) ≤ 411 * (r.length + 1)
      omega
    · show (PyData.showableAll (ns.map PyData.int) && PyData.showableAll (r.map tupD)) = true
      rw [c, c']
      rfl
    · show (PyData.hasDictAll (ns.map PyData.int) || PyData.hasDictAll (r.map tupD)) = false
      rw [d, d']
      rfl
    · show max (PyData.depthAll (ns.map PyData.int) + 1) (PyData.depthAll (r.map tupD)) ≤ 1
      have := depth_ints ns
      omega
/-- what repr asks of a list -/
theorem rep_of {K : PySem.W.Frag} {H : Hp} {a : Addr} {ds : List PyData} {n : Nat} {Q : VK} (hd : Dp K H (.ref a) (.list ds)) (o : IntsOk ds n) (hn : n ≤ 1000000) (q : Q (.str (PyData.shown (.list ds))) H) : rRepr K [.ref a] H Q :=
  ⟨a, .list ds, rfl, hd, o.sh, o.hd, PyData.shown_fits (B := 13) (by decide) (by decide) o.ls (Nat.le_trans o.wt (Nat.le_trans hn (by decide))), by show PyData.depthAll ds + 1 ≤ 60; have := o.dp; omega, q⟩
theorem dpAll_tps {K : PySem.W.Frag} {H : Hp} : ∀ {vs : List V} {nss : List (List Int)}, Paired (Tp K H) vs nss → DpAll K H vs (nss.map tupD)
  | _, _, .nil => .nil
  | _, _, .cons h t => .cons h.dp (dpAll_tps t)
theorem dp_list {K : PySem.W.Frag} {H : Hp} {a : Addr} {vs : List V} {ds : List PyData} (h : H a = some (.lst vs)) (hd : DpAll K H vs ds) : Dp K H (.ref a) (.list ds) := .lst (SqL.of h) hd
theorem fnd_r {K : PySem.W.Frag} {mg : Str → Option Value} {x : Str} {ps : List Str} {P : Program} {w : World} {base : Heap} {k : Nat} {sp : Sp} {f : Addr} {fd : FuncData}
    (G : FnOk P w K mg base CX0 k f fd ps sp) (m : mg x = some (.ref f)) (kp : PySem.W.keepIn K (.ref f) = true)
    (b : ∀ (s : Shared) (ws : List Value), K.In s.heap → ws.length = ps.length → BindsTo s fd ⟨[], ps.reverse.zip ws⟩ (ps.zip ws.reverse)) : HasR P w K mg base x ps k sp := ⟨f, fd, G, m, kp, b⟩
end Ur

namespace Ur
open PySem L2 PyProof.Rows
/-! ### enumerate of a tuple -/
set_option
      maxHeartbeats 1000000 in
theorem enum_one {v : Value} {o : Obj} {G : Heap → Prop} (B : Begins v o G) :
    Meets (Builtin.«enumerate.__new__» ⟨[.type "enumerate", v], []⟩) (fun _ R s => G s.heap ∧ R (.ok (.ret (.ref (s.heap.push o).objs.size)))
      { s with heap := (s.heap.push o).push { cls := .type "enumerate", data := .fields #[.none, .bool false, .ref s.heap.objs.size, rawInt 0, .none, .none] } }) :=
  .of_wp fun prog
        w A R s h => by
    obtain ⟨hp, g,
          d, tk, os⟩ := s
    obtain ⟨g1, h⟩ := h
    have hs := sub_enumerate
    have it1 : ∀ {A2 : Around} {E : Value → Shared → Prop} {Q : Value → Shared → Prop}, Q (.ref hp.objs.size) ⟨hp.push o, g, d, tk, os⟩ → wpAny (model prog w) A2 (pyIter v) Q E ⟨hp, g, d, tk, os⟩ :=
      fun q => B.iter prog w _ _ ⟨hp, g, d, tk, os⟩ _ g1 q
    wp_walk
    refine wpAny_stack_any
          fun st => wpAny_pure ?_
    split
    · rename_i c _ _ _ _ _
      cases (c == Value.type "enumerate") <;> (wp_walk using it1; exact ⟨_, rfl, h⟩)
    · wp_walk using it1
      exact ⟨_, rfl, h⟩
section
variable {prog : Program} {w : World} {A :
      Around} {E : Value → Shared → Prop} {s : Shared}
theorem call_enum_tup {t : Addr} {items : Array Value} {Q : Value → Shared → Prop} (ht : s.heap.IsTuple t items)
    (k : ∀ h', IsEnum h' (s.heap.objs.size + 1) s.heap.objs.size 0 .none → h'.IsTupleIter s.heap.objs.size t 0 → h'.objs.size = s.heap.objs.size + 2 →
      (∀ b o, s.heap.get? b = some o → h'.get? b = some o) → Q (.ref (s.heap.objs.size + 1)) { s with heap := h' }) : wpAny (model prog w) A (call (.type "enumerate") [.ref t]) Q E s := by
  have B := begins_tuple t items
  refine callType_new F.called_enumerate (by decide) (F.typeCall_enumerate_1 _) (F.newCall_enumerate_1 _) (fun obj => F.args_object_init_2 obj _) F.entry_enumerate_new (enum_one B) ⟨ht, ?_⟩
  generalize ho : ({ cls := .type "tuple_iterator", data := .fields #[.ref t, .int 0 0] } : Obj) = o at B
  have hz : (s.heap.push o).objs.size =
        s.heap.objs.size + 1 := Heap.size_push ..
  show _ ∧ _
  rw [hz]
  have he := Heap.get?_push_size (s.heap.push o) (o := { cls := .type "enumerate", data := .fields #[.none, .bool false, .ref s.heap.objs.size, rawInt 0, .none, .none] }) rfl
  rw [hz] at he
  have hi := Heap.get?_push_of_some { cls := .type "enumerate", data := .fields #[.none, .bool false, .ref s.heap.objs.size, rawInt 0, .none, .none] } (Heap.get?_push_size s.heap B.free)
  exact ⟨⟨_, he, rfl⟩, k _ he ⟨o, hi, by rw [← ho], by rw [← ho]; rfl⟩ (by rw [Heap.size_push, hz]) fun b o x => Heap.get?_push_of_some _ (Heap.get?_push_of_some _ x)⟩
end
def IteT (K : PySem.W.Frag) (a : Addr) : L2.It :=
  ⟨fun i H => ∃ (xs : List V) (x : V), SqT K H a xs ∧ xs[i]? = some x, fun i H v H' => ∃ T x, v = .ref T ∧ H T = none ∧ H' = upd H T (.tup [.int (i : Nat), x]) ∧ ∀ xs, SqT K H a xs → xs[i]? = some x, fun i H => ∃ xs : List V, SqT K H a xs ∧ xs.length = i⟩
theorem turn_enumT {P : Program} {w : World} {K : PySem.W.Frag} {elts : List Expr} {kk : Nat} {tpos : Pos} (a e it : Addr) :
    Turn P w K (.Tuple elts kk tpos) (IteT K a) [e, it] e (fun i h => (∃ old, IsEnum h e it ((i : Nat) : Int) old) ∧ h.IsTupleIter it a i ∧ e ≠ it) where
  mem := by simp
  obj := fun i h st b hb => by
    obtain ⟨⟨old, he⟩, ⟨o,
          ho, hc, hd⟩, _⟩ := st
    rcases (by simpa using hb : b = e ∨ b = it) with z | z
    · rw [z]
      exact ⟨_, he, fun v q => nomatch q⟩
    · rw [z]
      exact ⟨o, ho, fun v q => by rw [hd] at q; cases q⟩
  keep := fun i h h' st k => by
    obtain ⟨⟨old, he⟩, hi, hne⟩ := st
    exact ⟨⟨old, k e (by simp) _ he⟩, hi.at fun o q => k it (by simp) o q, hne⟩
  item := by
    intro X hP hw hK hc i
          pins s σ H E I hf st hg
    subst hP hw hK
    obtain ⟨⟨old, he⟩,
          hit, hne⟩ := st
    obtain ⟨xs, x, hq, hx⟩ := hg
    obtain ⟨its, rv, p,
          hz⟩ := I.tuple hq
    obtain ⟨u, hu,
          ru⟩ := rv.get hx
    have hel : e < s.heap.objs.size
          := Heap.lt_size he
    have hil : it < s.heap.objs.size := by
      obtain ⟨_, q, _⟩ := hit
      exact Heap.lt_size q
    have hat : a ≠ it := by
      rintro rfl
      obtain ⟨o, e1, c1, _⟩ := p
      obtain ⟨o', e2, c2, _⟩ := hit
      rw [e1] at e2
      cases e2
      rw [c1] at c2
      exact absurd (Value.type.inj c2) (by decide)
    have hae : e ≠ a := by
      rintro rfl
      obtain ⟨o, e1, c1, _⟩ := p
      have e2 : s.heap.get? e = _ := he
      rw [e1] at e2
      cases e2
      exact absurd (Value.type.inj c1) (by decide)
    have hlt : i < its.toArray.size := by
      have := (Array.getElem?_eq_some_iff.mp (by simpa using hu : its.toArray[i]? = some u)).1
      exact this
    refine wpAny_pyNext_enum_itemD (Draws.tuple (prog := X.prog) (w := X.w) (A := X.A.in1) (I.ok.hd hc) it a hat its.toArray) he ⟨hit, p⟩ hlt hne (by simp [hne, hae]) fun x' h' tk hpx ho st' hT hsz hk => ?_
    obtain rfl : x' = u := by
      have e1 : its.toArray[i]? = some u := by simpa using hu
      exact (Option.some.inj (hpx.symm.trans e1))
    refine ⟨_, rfl, wpAny_letOwnedTupleGo_enum (s := { s with heap := h', toks := tk + 1 }) ho fun h'' he' sb => ?_⟩
    have hT2 : h''.get? s.heap.objs.size = some { cls := .type "tuple", data := .seq #[.int i tk, x'] } := (sb.2 _ (Nat.ne_of_gt hel)).trans hT
    have new : ObjOk X.prog X.w (upd H s.heap.objs.size (.tup [.int (i
          : Nat), x])) h'' s.heap.objs.size (.tup [.int (i : Nat), x]) :=
      ⟨by show 2 ≤ sizeLine; decide, [.int i tk, x'], .cons ⟨_, rfl⟩ (.cons ru .nil), ⟨_, hT2, rfl, _, rfl⟩⟩
    have I1 : Inv X pins σ (upd H s.heap.objs.size (.tup [.int (i : Nat), x])) { s with heap := h'', toks := tk + 1 } :=
      I.turnedNew (ch := [e, it]) (fun b ob hb q => (sb.2 b (fun z => hb (by simp [z]))).trans
            (hk b ob (fun z => hb (by simp [z])) (fun z => hb (by simp [z])) q)) hf (Nat.le_refl _) new
    refine ⟨.ref s.heap.objs.size, _, I1, rfl, ⟨_, x, rfl, I.hok.fresh (Nat.le_refl _), rfl, fun ys hy => by rw [I.tuple_inj hy hq]; exact hx⟩, ⟨⟨x', ?_⟩, st'.1.at fun o q => (sb.2 it (Ne.symm hne)).trans q, hne⟩, fun b hb => ?_⟩
    · have e1 : ((i + 1 : Nat) :
          Int) = (i : Int) + 1 := by omega
      rw [e1]
      exact he'
    · have hb' : b <
          s.heap.objs.size := by
        rcases (by simpa using hb : b = e ∨ b = it) with z | z
        · rw [z]; exact hel
        · rw [z]; exact hil
      rw [upd_ne
            (Nat.ne_of_lt hb')]
      exact (hf b hb).1
  done := by
    intro X hP hw hK hc i
          pins s σ H E I hf st hg
    subst hP hw hK
    obtain ⟨⟨old, he⟩,
          hit, hne⟩ := st
    obtain ⟨xs, hq, hx⟩ := hg
    obtain ⟨its, rv, p,
          hz⟩ := I.tuple hq
    obtain ⟨f0, f1, f2, f3,
          f4, f5⟩ := hf it (by simp)
    have hl := rv.length
    have hat : a ≠ it := by
      rintro rfl
      obtain ⟨o, e1, c1, _⟩ := p
      obtain ⟨o', e2, c2, _⟩ := hit
      rw [e1] at e2
      cases e2
      rw [c1] at c2
      exact absurd (Value.type.inj c2) (by decide)
    have hi : i = its.toArray.size := by
      rw [List.size_toArray, ← hl]
      exact hx.symm
    subst hi
    exact wpAny_pyNext_enum_endD (Draws.tuple (prog := X.prog) (w := X.w) (A := X.A.in1) (I.ok.hd hc) it a hat its.toArray) he ⟨hit, p⟩ fun h' eb => ⟨rfl, I.turned (t' := s.toks) (fun b o hb q => eb b o hb q) f0 f1 f3 f4 f5⟩
  self := fun A i
        s Q E st h => by
    obtain ⟨⟨_, he⟩, _⟩ := st
    exact wpAny_pyIter_enum he h
def iEnumT (K : PySem.W.Frag) (ta : TA) : TI := fun σ H R => ta σ H fun vs H1 => ∃ a xs, vs = [.ref a] ∧ SqT K H1 a xs ∧ R (IteT K a) H1
theorem pi_enumT {X : Cx} {e : Expr} {ta : TA} {p pos tpos : Pos} {elts : List Expr} {kk : Nat} (hg : Gl X "enumerate") (hm : X.mg "enumerate" = none) (ha : PA X [e] ta) (hs : starEach [e] X.env = [(false, eval e X.env)] := by rfl) :
    PI X (.Tuple elts kk tpos) (.Call (.Name "enumerate" p) [e] [] pos) (iEnumT X.K ta) := by
  refine ⟨fun pins
        s σ H R I h => ?_⟩
  refine Call_ (ld_blt I hg hm boot_enumerate (PyProof.Rows.callWith_type1 (thn
        (ha.run pos pins s σ H _ I h) fun us s1 ⟨vs, H1, I1, r1, q1⟩ => ?_) hs rfl))
  obtain ⟨a, xs,
        ex, hq, q⟩ := q1
  subst ex
  cases r1 with
  | cons r rr =>
    cases rr
    cases r
    obtain ⟨its, rv, p', hz⟩ := I1.tuple hq
    refine call_enum_tup p' fun h' he hit hsz hk => wpAny_pyIter_enum he ?_
    have I2 : Inv X pins σ H1 { s1 with heap
          := h' } := I1.kept (t' := s1.toks) hk
    refine ⟨s1.heap.objs.size + 1, [s1.heap.objs.size + 1, s1.heap.objs.size], _, _, H1, rfl, I2, turn_enumT a (s1.heap.objs.size + 1) s1.heap.objs.size, ⟨⟨.none, he⟩, hit, Nat.succ_ne_self _⟩, fun b hb => ?_, q⟩
    have hle :
          s1.heap.objs.size ≤ b := by
      rcases (by simpa using hb : b = s1.heap.objs.size + 1 ∨ b = s1.heap.objs.size) with z | z
      · rw [z]; exact
            Nat.le_add_right _ _
      · rw [z]; exact Nat.le_refl _
    exact I1.fpOk hle
          (I1.hok.fresh hle)
end Ur

namespace Ur
open PySem L2 PyProof.Rows
/-! ### the other laws' pot: own number, stir, count -/
structure Bp (a b c : Int) : Prop where
  a0 : 0 ≤ a
  b0 : 0 ≤ b
  b1 : b < 4294967296
  c0 : 0 ≤ c
def PotO (u : Addr) : HO := .ext fun h => ∃ (a b c : Int) (its : List Value) (n : Nat), Bp a b c ∧ Vals (nums a b c) its ∧ h.get? u = some { cls := .type "list", data := .seq its.toArray n }
section
variable {X : Cx} {pins : List (Addr × Obj)} {σ : L2.St} {H : Hp} {s : Shared} {u : Addr}
theorem potOpen (I : Inv X pins σ H s) (h : H u = some (PotO u)) : ∃ a b c, Bp a b c ∧ Inv X pins σ (upd H u (.lst (nums a b c))) s := by
  obtain ⟨⟨a, b, c, its, n, B, r, e⟩, _⟩ := I.hok u _ h
  refine ⟨a, b, c, B, I.write (x := u) (e := u) (t' := s.toks) (h' := s.heap) (by rw [h]; exact trivial) (.inl rfl) (fun b v _ q => q) ⟨_, e⟩ ?_⟩
  exact ⟨by show 3 ≤ sizeLine; decide, its, n, r, e⟩
theorem potShut {a b c : Int} (I : Inv X pins σ H s) (h : H u = some (.lst (nums a b c))) (B : Bp a b c) : Inv X pins σ (upd H u (PotO u)) s := by
  obtain ⟨_, its, n, r, e⟩ := I.hok u _ h
  refine I.write (x := u) (e := u) (t' := s.toks) (h' := s.heap) (by rw [h]; exact trivial) (.inl rfl) (fun b v _ q => q) ⟨_, e⟩ ?_
  exact ⟨⟨a, b, c, its, n, B, r, e⟩, ⟨_, e⟩, fun h1 h2 ⟨a, b, c, its, n, B, r, e⟩ k => ⟨a, b, c, its, n, B, r, k _ e⟩⟩
end
def ShutP (u : Addr) (Q : Hp → Prop) (H : Hp) : Prop := ∃ a b c, Bp a b c ∧ H u = some (.lst (nums a b c)) ∧ Q (upd H u (PotO u))
def tPot (t : TS) : TS := fun D σ H => ∃ u, H u = some (PotO u) ∧ ∀ a b c, Bp a b c → t ⟨fun σ' H' => ShutP u (D.nx σ') H', fun v H' => ShutP u (D.rt v) H', fun σ' H' => ShutP u (D.bk σ') H', fun σ' H' => ShutP u (D.ct σ') H'⟩ σ (upd H u (.lst (nums a b c)))
def tShutP (t : TE) : TE := fun σ H Q => t σ H fun v H1 => ∃ u, v = .ref u ∧ ShutP u (Q v) H1
section
variable {X : Cx}
theorem pss_pot {sts : List Stmt} {t : TS} (h : PSs X sts t) : PSs X sts (tPot t) := by
  refine ⟨fun pins s
        σ H D I hw => ?_⟩
  obtain ⟨u, hu, hw⟩ := hw
  obtain ⟨a, b, c, B, I1⟩ := potOpen I hu
  refine thn (h.run pins s σ _ _ I1 (hw a b c B)) fun f s1 q => ?_
  cases f with
  | next => obtain ⟨σ', H', I2, a, b, c, B, e, q⟩ := q; exact ⟨σ', _, potShut I2 e B, q⟩
  | brk => obtain ⟨σ', H', I2, a, b, c, B, e, q⟩ := q; exact ⟨σ', _, potShut I2 e B, q⟩
  | cont => obtain ⟨σ', H', I2, a, b, c, B, e, q⟩ := q; exact ⟨σ', _, potShut I2 e B, q⟩
  | ret v => obtain ⟨x, σ', H', I2, r, a, b, c, B, e, q⟩ := q; exact ⟨x, σ', _, potShut I2 e B, r, q⟩
theorem pe_shutP {e : Expr} {t : TE} (h : PE X e t) : PE X e (tShutP t) := by
  refine ⟨fun pins s
        σ H Q I hw => ?_⟩
  refine thn (h.run pins s σ _ _ I hw) fun v s1 ⟨x, H1, I2, r, u, e1, a, b, c, B, e2, q⟩ => ?_
  exact ⟨x, _, potShut I2 e2 B, r, q⟩
end
/-! ### enumerate, walked -/
theorem walk_enumT {K : PySem.W.Frag} {a : Addr} {xs : List V} : Walk (IteT K a) xs.length (fun H => SqT K H a xs) (fun i H v H' => ∃ T x, v = .ref T ∧ H T = none ∧ H' = upd H T (.tup [.int (i : Nat), x]) ∧ xs[i]? = some x) where
  goes := fun i H hi h => ⟨xs, xs[i], h, by simp [hi]⟩
  stops := fun H h => ⟨xs, h, rfl⟩
  yields := fun i H v H' _ h ⟨T, x, e, n, u, q⟩ => ⟨T, x, e, n, u, q xs h⟩
end Ur

namespace K5
open PySem L2 Ur
def top (i : Nat) : Stmt := PySem.Challenge.pw_hullrests_k35_whole_remainders.main.body.getD i (.Pass ⟨0, 0, 0, 0⟩)
structure Bl (mg : Str → Option Value) : Prop where
  int : mg "int" = none
  abs : mg "abs" = none
  len : mg "len" = none
  max : mg "max" = none
  min : mg "min" = none
  divmod : mg "divmod" = none
  range : mg "range" = none
  tuple : mg "tuple" = none
  list : mg "list" = none
  isinstance : mg "isinstance" = none
  bool : mg "bool" = none
  all : mg "all" = none
  repr : mg "repr" = none
  sum : mg "sum" = none
  enumerate : mg "enumerate" = none
  reversed : mg "reversed" = none
abbrev sCom : Stmt := top 7
abbrev sWhole : Stmt := top 9
abbrev sWholes : Stmt := top 10
abbrev sNumsF : Stmt := top 11
abbrev sRowF : Stmt := top 12
abbrev sChkR : Stmt := top 14
abbrev sTrim : Stmt := top 16
abbrev sRShort : Stmt := top 17
abbrev sPot : Stmt := top 23
abbrev sDraw : Stmt := top 24
abbrev sOf : Stmt := top 25
abbrev sFrom : Stmt := top 26
abbrev sLCom : Stmt := top 27
abbrev sLShort : Stmt := top 28
abbrev sLTrim : Stmt := top 29
abbrev sLAdded : Stmt := top 30
abbrev sLMult : Stmt := top 31
abbrev sLRow : Stmt := top 32
abbrev sRight : Stmt := top 33
abbrev sLaw : Stmt := top 34
section
variable {P : Program} {w : World} {K :
      PySem.W.Frag} {mg : Str → Option Value} {base : Heap}
def gAll (ns : List Int) : Nat := ns.foldl (fun g n => Nat.gcd g n.natAbs) 0
def thin (ns : List Int) : List Int := if gAll ns < 2 then ns else ns.map fun n => n / (gAll ns : Int)
theorem take_next {α : Type} {l : List α} {i : Nat} {x : α}
      (h : l[i]? = some x) : l.take (i + 1) = l.take i ++ [x] := by
  obtain ⟨hi, rfl⟩ := List.getElem?_eq_some_iff.mp h
  exact List.take_succ_eq_append_getElem hi
theorem gAll_next {ns : List Int} {i : Nat} {z : Int} (h : ns[i]? = some z) : gAll (ns.take (i + 1)) = Nat.gcd (gAll (ns.take i)) z.natAbs := by
  unfold gAll
  rw [take_next h, List.foldl_append]
  rfl
theorem gAll_big : ∀ (ns : List Int) (g : Nat), g < 2 ^ 9000 → (∀ n ∈ ns, n.natAbs < 2 ^ 9000) → ns.foldl (fun g n => Nat.gcd g n.natAbs) g < 2 ^ 9000
  | [], g, h, _ => h
  | n :: r, g, h, hs => by
    refine gAll_big r _ ?_ fun m hm => hs m (List.mem_cons_of_mem _ hm)
    have hn := hs n List.mem_cons_self
    show Nat.gcd g n.natAbs < 2 ^ 9000
    by_cases z : g = 0
    · rw [z, Nat.gcd_zero_left]; exact hn
    · exact Nat.lt_of_le_of_lt (Nat.gcd_le_left _ (Nat.pos_of_ne_zero z)) h
theorem big0 : 0 < 2 ^ 9000 := Nat.pow_pos (by decide)
theorem abs_nat (z : Int) : (if z < 0 then -z else z) = ((z.natAbs : Nat) : Int) := by
  split <;> omega
def isFr : List V → Bool
  | [.int n, .int m] => decide (0 < m) && decide (Nat.gcd n.natAbs m.natAbs = 1)
  | _ => false
theorem ns_len {n : Nat} {ns : List Int} (h : decide (V.int ((ns.map V.int).length : Int) = V.int (n : Int)) = true) : ns.length = n := by
  have e := V.int.inj (of_decide_eq_true h)
  rw [List.length_map] at e
  omega
theorem not_len {n : Nat} {ns : List Int} (h : ¬ decide (V.int ((ns.map V.int).length : Int) = V.int (n : Int)) = true) : ns.length ≠ n := fun e => h (decide_eq_true (by rw [List.length_map, e]))
theorem fr_no {ns : List Int} (h : ns.length ≠ 2) : isFr (ns.map V.int) = false := by
  match ns, h with
  | [], _ => rfl
  | [_], _ => rfl
  | _ :: _ :: _ :: _, _ => rfl
theorem fr_wh : ∀ {xs : List V}, isFr xs = true → xs.all wh = true
  | [.int n, .int m], _ => rfl
theorem of_wh {g : List V → Bool} (hg : ∀ {xs : List V}, g xs = true → xs.all wh = true) {xs : List V} (h : xs.all wh = false) : g xs = false := by
  cases e : g xs with
  | false => rfl
  | true => rw [hg e] at h; cases h
abbrev n_common_divisor : List Str := ["numbers", "found", "number"]
abbrev p_common_divisor : List Str := ["numbers"]
theorem sc_common_divisor : FnScope n_common_divisor p_common_divisor (defScope sCom) := ⟨rfl, rfl, rfl, by decide +kernel, rfl, by decide +kernel, by decide +kernel⟩
def spCom (K : PySem.W.Frag) : Sp := fun vs H Q _ => ∃ (t : Addr) (ns : List Int), vs = [.ref t] ∧ SqT K H t (ns.map V.int) ∧ Q (.int (gAll ns : Nat)) H
theorem ok_com {f : Addr} {fd : FuncData} (F : Fun K "common_divisor" "common_divisor" sCom f fd) (mG : mg "gcd" = some (.builtin "math.gcd")) : FnOk P w K mg base CX0 1 f fd p_common_divisor (spCom K) := by
  refine F.ok sc_common_divisor (fun vs H Q E h => ?_) (fun cdv A outer s H vs Q E hr h => ?_)
  · obtain ⟨t, ns, rfl, _⟩ := h
    rfl
  · obtain ⟨t, ns, rfl, hS, k⟩ := h
    refine ⟨_, (pss_cons (ps_set (i := 1) sc_common_divisor.nd rfl (Or.inl rfl) pe_int)
      (pss_cons (ps_for PassesOwn.never rfl (pi_tup (pv 0)) (pg_name (i := 2) sc_common_divisor.nd rfl (Or.inl rfl)) (pss_one (ps_set (i := 1) sc_common_divisor.nd rfl (Or.inl rfl) (pe_callBfun cr_gcd (by rfl) mG (pa_cons (pv 1) (pa_cons (pv 2) pa_nil))))))
      (pss_one (ps_ret (pv 1))))), ?_⟩
    refine ⟨_, rfl, t, rfl, ⟨_, hS⟩, for_tup (K := K) (a := t) (xs := ns.map V.int) (fun i σ H' => ∃ v : Option V, σ = [some (.ref t), some (.int (gAll (ns.take i) : Nat)), v] ∧ H' = H) ⟨none, rfl, rfl⟩ (fun i σ H' _ ⟨_, _, e⟩ => e ▸ hS) ?_ ?_⟩
    · rintro i y σ H' hi ⟨v, rfl, rfl⟩
      obtain ⟨z, hz, rfl⟩ := map_at hi
      refine ⟨_, rfl, _, rfl, _, _, rfl, some (V.int z), ?_, rfl⟩
      rw [gAll_next hz, Int.natAbs_natCast]
      rfl
    · rintro σ H' ⟨v, rfl, rfl⟩
      rw [List.length_map,
            List.take_length]
      exact ⟨_, rfl, k⟩
def spWhole (K : PySem.W.Frag) : Sp := fun vs H Q _ => ∃ (x : V) (k : Kd), vs = [x] ∧ OfKd K H x k ∧ Q (.bl (wh x)) H
theorem whole_read {K : PySem.W.Frag} {x : V} {k : Kd} {H : Hp} {Q : VK} (hx : OfKd K H x k) (q : Q (.bl (wh x)) H) :
    tRet (tAndV (tCB (rIsi K) (tCons (tVar 0) (tCons (tC (.ty "int")) tNil))) (tNotV (tCB (rIsi K) (tCons (tVar 0) (tCons (tC (.ty "bool")) tNil))))) { nx := fun _ H' => Q .non H', rt := Q } [some x] H := by
  refine ⟨x, rfl, x, _, _, _, _, rfl, .ty "int", hx, kit_ty (kd_int k), _, rfl, ?_⟩
  have ew := ofKd_wh hx
  refine ite2 (fun c
        => ?_) (fun c => ?_)
  · refine ⟨x, rfl, x, _, _, _, _, rfl, .ty "bool", hx, kit_ty (kd_bool k), _, rfl, ?_⟩
    have : (!(k == Kd.bool)) = wh x := by
      rw [← ew]
      cases k <;> first | rfl | (exact absurd c (by decide))
    rw [this]
    exact q
  · have : false = wh x := by
      rw [← ew]
      cases k <;> first | rfl | (exact absurd rfl c)
    rw [this]
    exact q
abbrev n_is_whole : List Str := ["value"]
theorem sc_is_whole : FnScope n_is_whole n_is_whole (defScope sWhole) := ⟨rfl, rfl, rfl, by decide +kernel, rfl, by decide +kernel, by decide +kernel⟩
theorem ok_whole {f : Addr} {fd : FuncData} (F : Fun K "is_whole" "is_whole" sWhole f fd) (T : Bl mg) : FnOk P w K mg base CX0 1 f fd n_is_whole (spWhole K) := by
  refine F.ok sc_is_whole (fun vs H Q E h => ?_) (fun cdv A outer s H vs Q E hr h => ?_)
  · obtain ⟨x, k, rfl, _⟩ := h
    rfl
  · obtain ⟨x, k, rfl, hx, q⟩ := h
    exact ⟨_, (pss_one (ps_ret (pe_and (pe_callB call_isi (by rfl) T.isinstance PyProof.Rows.boot_isinstance (pa_cons (pv 0) (pa_cons (pe_bltn (v := .ty "int") (by rfl) T.int PyProof.Rows.boot_int rfl) pa_nil))) (pe_one (pe_not (pe_callB call_isi (by rfl) T.isinstance PyProof.Rows.boot_isinstance (pa_cons (pv 0) (pa_cons (pe_bltn (v := .ty "bool") (by rfl) T.bool PyProof.Rows.boot_bool rfl) pa_nil)))))))), whole_read hx q⟩
abbrev n_wholes_fit : List Str := ["value", "number"]
abbrev p_wholes_fit : List Str := ["value"]
theorem sc_wholes_fit : FnScope n_wholes_fit p_wholes_fit (defScope sWholes) := ⟨rfl, rfl, rfl, by decide +kernel, rfl, by decide +kernel, by decide +kernel⟩
/-- told of a value of any kind -/
def spTold (K : PySem.W.Frag) (g : List V → Bool) : Sp := fun vs H Q _ => ∃ (x : V) (k : Kd) (xs : List V), vs = [x] ∧ Arg K H x k xs ∧ ∀ H' : Hp, Same H H' → Q (.bl (k == .tup && g xs)) H'
theorem kd_ne {k : Kd} {b : Bool} (c : ¬ (k == Kd.tup) = true) : (k == Kd.tup && b) = false := by
  cases h : (k == Kd.tup) with
  | true => exact absurd h c
  | false => rfl
theorem ok_wholes {f : Addr} {fd : FuncData} (F : Fun K "wholes_fit" "wholes_fit" sWholes f fd) (T : Bl mg) (H_is_whole : Has P w K mg base "is_whole" n_is_whole 1 (spWhole K)) : FnOk P w K mg base CX0 2 f fd p_wholes_fit (spTold K fun xs => xs.all wh) := by
  refine F.ok sc_wholes_fit (fun vs H Q E h => ?_) (fun cdv A outer s H vs Q E hr h => ?_)
  · obtain ⟨x, k, xs, rfl, _⟩ := h
    rfl
  · obtain ⟨x, k, xs, rfl, A1, q⟩ := h
    refine ⟨_, (pss_one (ps_ret (pe_and (pe_callB call_isi (by rfl) T.isinstance PyProof.Rows.boot_isinstance (pa_cons (pv 0) (pa_cons (pe_bltn (v := .ty "tuple") (by rfl) T.tuple PyProof.Rows.boot_tuple rfl) pa_nil))) (pe_one (pe_callB (cr_all rfl) (by rfl) T.all PyProof.Rows.boot_all (pa_cons (pe_lc (own := [("number", 1)]) (g := gName 1) (tt := tYes) rfl sc_wholes_fit.nd (pi_tup (pv 0)) (blkOk_by (N := n_wholes_fit) (sc := defScope sWholes) (by decide +kernel)) (fun _ _ _ _ _ => pg_name (i := 1) sc_wholes_fit.nd rfl (Or.inl rfl)) (fun _ _ _ _ _ => pts_nil) (fun _ _ _ _ _ => (pe_has H_is_whole (hr.mono (by decide)) (by rfl) (pa_cons (pv 1) pa_nil)))) pa_nil)))))), ?_⟩
    refine ⟨x, rfl, x, _, _, _, _, rfl, .ty "tuple", A1.ty, kit_ty (kd_tup k), _, rfl, ?_⟩
    refine ite2 (fun c
          => ?_) (fun c => ?_)
    · obtain ⟨a, rfl, hS, hl, hk, hb⟩ := A1.its (by simpa using c)
      unfold tCB tCons tNil
      dsimp only
      refine lcT (K := K) (a := a) (xs := xs) (fun i y => ∃ z, xs[i]? = some z ∧ y = .bl (wh z)) (fun R r => ⟨_, rfl, r⟩) hS (by omega) (fun x => rfl) (fun i z H3 hi sm Q' q' => ?_) (fun D ys H2 hD sm hy e1 e2 => ?_)
      · obtain ⟨l, hl⟩ := (hk z (List.mem_of_getElem? hi)).kd
        exact ⟨z, rfl, z, l, rfl, ofKd_same sm hl, q' _ _ ⟨z, hi, rfl⟩ (Same.refl _)⟩
      · have ey : ys = (xs.map wh).map V.bl := by
          apply List.ext_getElem?
          intro i
          cases h : ys[i]? with
          | none =>
            have := List.getElem?_eq_none_iff.mp h
            rw [List.getElem?_eq_none (by simp at e1 ⊢; omega)]
          | some y =>
            obtain ⟨z, hz, rfl⟩ := e2 i y h
            simp [hz]
        rw [ey] at hy
        refine ⟨D, xs.map wh, rfl, SqL.of hy, ?_⟩
        have e3 : (xs.map wh).all id = (k == Kd.tup && xs.all wh) := by
          rw [c, List.all_map]
          rfl
        rw [e3]
        exact q H2 sm
    · have := q H (Same.refl H)
      rw [kd_ne c] at this
      exact this
abbrev n_value : List Str := ["value"]
theorem fr_len : ∀ {xs : List V}, isFr xs = true → xs.length = 2 ∧ xs.all wh = true
  | [.int n, .int m], _ => ⟨rfl, rfl⟩
theorem thin_eq {ns : List Int} (h : 0 < gAll ns) : thin ns = ns.map fun n => n / (gAll ns : Int) := by
  unfold thin
  split
  · have : gAll ns = 1 := by omega
    rw [this]
    show ns = ns.map fun n => n / 1
    simp
  · rfl
theorem gAll_2 (a b : Int) : gAll [a, b] = Nat.gcd a.natAbs b.natAbs := by
  show Nat.gcd (Nat.gcd 0 a.natAbs) b.natAbs = _
  rw [Nat.gcd_zero_left]
theorem g2_pos {x w : Int} (h : 0 < w) : 0 < gAll [x, w] := by
  rw [gAll_2]
  exact Nat.gcd_pos_of_pos_right _ (by omega)
theorem ex_div {g : Nat} {x : Int} (h : g ∣ x.natAbs) : ∃ q : Int, x = (g : Int) * q := Int.ofNat_dvd_left.mpr h
theorem thin2 {x w : Int} (h : 0 < w) : ∃ (g p r : Int), 0 < g ∧ x = g * p ∧ w = g * r ∧ thin [x, w] = [p, r] ∧ Nat.gcd p.natAbs r.natAbs = 1 := by
  have hg := g2_pos (x := x) h
  have e := thin_eq hg
  obtain ⟨p, hp⟩ := ex_div (g := gAll [x, w]) (x := x) (by rw [gAll_2]; exact Nat.gcd_dvd_left _ _)
  obtain ⟨r, hr⟩ := ex_div (g := gAll [x, w]) (x := w) (by rw [gAll_2]; exact Nat.gcd_dvd_right _ _)
  have h3 := gAll_2 x w
  generalize gAll [x, w] = g at *
  have hg' : (g : Int) ≠ 0 := by omega
  refine ⟨g, p, r, by omega, hp, hr, ?_, ?_⟩
  · rw [e]
    show [x / (g : Int), w / (g : Int)] = _
    rw [hp, hr, Int.mul_ediv_cancel_left _ hg', Int.mul_ediv_cancel_left _ hg']
  · rw [hp, hr, Int.natAbs_mul, Int.natAbs_mul, Int.natAbs_natCast, Nat.gcd_mul_left] at h3
    have : g * 1 = g * Nat.gcd p.natAbs r.natAbs := by rw [Nat.mul_one]; exact h3
    exact (Nat.eq_of_mul_eq_mul_left hg this).symm
theorem pos_of {g r : Int} (hg : 0 < g) (h : 0 < g * r) : 0 < r := Int.pos_of_mul_pos_right h hg
theorem abs_le {g p : Int} {n : Nat} (hg : 0 < g) (h : (g * p).natAbs ≤ n) : p.natAbs ≤ n := by
  rw [Int.natAbs_mul] at h
  have : 1 * p.natAbs ≤ g.natAbs * p.natAbs := Nat.mul_le_mul_right _ (by omega)
  omega
end
end K5

namespace K5
open PySem L2 Ur
/-! ### rows without noughts at their end -/
def trimL : List Int → List Int
  | [] => []
  | x :: r => if trimL r = [] ∧ x = 0 then [] else x :: trimL r
theorem trim_snoc0 : ∀ l : List Int, trimL (l ++ [0]) = trimL l
  | [] => by simp [trimL]
  | x :: r => by
    show (if trimL (r ++ [0]) = [] ∧ x = 0 then [] else x :: trimL (r ++ [0])) = _
    rw [trim_snoc0 r]
    rfl
theorem trim_snoc {x : Int} (h : x ≠ 0) : ∀ l : List Int, trimL (l ++ [x]) = l ++ [x]
  | [] => by simp [trimL, h]
  | y :: r => by
    show (if trimL (r ++ [x]) = [] ∧ y = 0 then [] else y :: trimL (r ++ [x])) = _
    rw [trim_snoc h r, if_neg (by simp)]
    rfl
theorem trim_mem {z : Int} : ∀ {l : List Int}, z ∈ trimL l → z ∈ l
  | x :: r, h => by
    unfold trimL at h
    split at h
    · cases h
    · rcases List.mem_cons.mp
          h with rfl | h
      · exact List.mem_cons_self
      · exact List.mem_cons_of_mem _ (trim_mem h)
theorem trim_len : ∀ l : List Int, (trimL l).length ≤ l.length
  | [] => Nat.le_refl _
  | x :: r => by
    unfold trimL
    split
    · exact Nat.zero_le _
    · exact Nat.succ_le_succ (trim_len r)
theorem take_last {ns : List Int} {m : Nat} {x : Int} (h : ns[m]? = some x) : ns.take (m + 1) = ns.take m ++ [x] := take_next h
/-! ### told of values -/
def isNums (xs : List V) : Bool := decide (xs.length ≤ 13) && xs.all wh
def lastOk (xs : List V) : Bool := match xs.getLast? with
  | some (.int i) => decide (i ≠ 0)
  | _ => true
def isRw (xs : List V) : Bool := isNums xs && lastOk xs
theorem ints_all : ∀ {xs : List V}, xs.all wh = true → ∃ ns : List Int, xs = ns.map V.int
  | [], _ => ⟨[], rfl⟩
  | x :: r, h => by
    rw [List.all_cons,
          Bool.and_eq_true] at h
    obtain ⟨ns, rfl⟩ := ints_all h.2
    cases x with
    | int i => exact ⟨i :: ns, rfl⟩
    | _ => exact absurd (show false = true from h.1) Bool.false_ne_true
theorem all_ints : ∀ ns : List Int, (ns.map V.int).all wh = true
  | [] => rfl
  | _ :: r => all_ints r
def spR2 (K : PySem.W.Frag) : Sp := fun vs H Q _ => ∃ x w : Int, vs = [.int x, .int w] ∧ 0 < w ∧ x.natAbs ≤ 2 ^ 1000 ∧ w.natAbs ≤ 2 ^ 1000 ∧ ∀ p H', Same H H' → Tp K H' p (thin [x, w]) → Q p H'
theorem b1000 {n : Nat} (h : n ≤ 2 ^ 1000) : n < 2 ^ 9000 := Nat.lt_of_le_of_lt h (Nat.pow_lt_pow_right (by decide) (by decide))
section
variable {P : Program} {w : World} {K :
      PySem.W.Frag} {mg : Str → Option Value} {base : Heap}
abbrev n_ratio : List Str := ["n", "m", "divisor"]
abbrev p_ratio : List Str := ["n", "m"]
/-! ### numbers, rows -/
theorem sc_numsF : FnScope n_value n_value (defScope sNumsF) := ⟨rfl, rfl, rfl, by decide +kernel, rfl, by decide +kernel, by decide +kernel⟩
theorem ok_numsF {f : Addr} {fd : FuncData} (F : Fun K "numbers_fit" "numbers_fit" sNumsF f fd) (T : Bl mg) (H_wholes_fit : Has P w K mg base "wholes_fit" p_wholes_fit 2 (spTold K fun xs => xs.all wh)) : FnOk P w K mg base CX0 3 f fd n_value (spTold K isNums) := by
  refine F.ok sc_numsF (fun vs H Q E h => ?_) (fun cdv A outer s H vs Q E hr h => ?_)
  · obtain ⟨x, k, xs, rfl, _⟩ := h
    rfl
  · obtain ⟨x, k, xs, rfl, A1, q⟩ := h
    refine ⟨_, (pss_one (ps_ret (pe_and (pe_callB call_isi (by rfl) T.isinstance PyProof.Rows.boot_isinstance (pa_cons (pv 0) (pa_cons (pe_bltn (v := .ty "tuple") (by rfl) T.tuple PyProof.Rows.boot_tuple rfl) pa_nil))) (pe_and (pe_cmpR op_le (pe_callB call_len_seq (by rfl) T.len PySem.boot_len (pa_cons (pv 0) pa_nil)) pe_int (nomark _)) (pe_one (pe_has H_wholes_fit (hr.mono (by decide)) (by rfl) (pa_cons (pv 0) pa_nil))))))), ?_⟩
    refine ⟨x, rfl, x, _, _, _, _, rfl, .ty "tuple", A1.ty, kit_ty (kd_tup k), _, rfl, ?_⟩
    refine ite2 (fun c
          => ?_) (fun c => ?_)
    · obtain ⟨a, rfl, hS, hl, hk, hb⟩ := A1.its (by simpa using c)
      refine ⟨_, rfl, a, xs, rfl, Or.inr hS, _, _, rfl, rfl, _, rfl, ?_⟩
      refine ite2 (fun c2 => ?_) (fun c2 => ?_)
      · refine ⟨_, rfl, _, k, xs, rfl, A1, fun H2 s2 => ?_⟩
        have e : (k == Kd.tup && xs.all wh) = (k == Kd.tup && isNums xs) := by
          unfold isNums
          rw [decide_eq_true (by have := of_decide_eq_true c2; omega)]
          rfl
        rw [e]
        exact q H2 s2
      · have e : false = (k == Kd.tup && isNums xs) := by
          unfold isNums
          rw [decide_eq_false (fun z => c2 (decide_eq_true (by omega))), Bool.false_and, Bool.and_false]
        rw [e]
        exact q H (Same.refl H)
    · have := q H (Same.refl H)
      rw [kd_ne c] at this
      exact this
theorem sc_rowF : FnScope n_value n_value (defScope sRowF) := ⟨rfl, rfl, rfl, by decide +kernel, rfl, by decide +kernel, by decide +kernel⟩
theorem ok_rowF {f : Addr} {fd : FuncData} (F : Fun K "row_fits" "row_fits" sRowF f fd) (H_numbers_fit : Has P w K mg base "numbers_fit" n_value 3 (spTold K isNums)) : FnOk P w K mg base CX0 4 f fd n_value (spTold K isRw) := by
  refine F.ok sc_rowF (fun vs H Q E h => ?_) (fun cdv A outer s H vs Q E hr h => ?_)
  · obtain ⟨x, k, xs, rfl, _⟩ := h
    rfl
  · obtain ⟨x, k, xs, rfl, A1, q⟩ := h
    refine ⟨_, (pss_one (ps_ret (pe_and (pe_has H_numbers_fit (hr.mono (by decide)) (by rfl) (pa_cons (pv 0) pa_nil)) (pe_one (pe_or (pe_notT (pv 0)) (pe_one (pe_cmpR op_ne (pe_ix ix_tup (pv 0) (pe_un un_neg pe_int) (fun _ _ => rfl)) pe_int (nomark _)))))))), ?_⟩
    refine ⟨_, rfl, x, k, xs, rfl, A1, fun H2 s2 => ⟨_, rfl, ?_⟩⟩
    refine ite2 (fun c
          => ?_) (fun c => ?_)
    · rw [Bool.and_eq_true] at c
      obtain ⟨a, rfl, hS, hl, hk, hb⟩ := (A1.same s2).its (by simpa using c.1)
      have c2 := c.2
      unfold isNums at c2
      rw [Bool.and_eq_true] at c2
      obtain ⟨ns, rfl⟩ := ints_all c2.2
      have e0 : (k == Kd.tup && isRw (ns.map V.int)) = lastOk (ns.map V.int) := by
        unfold isRw
        rw [c.1, c.2]
        rfl
      rw [e0] at q
      refine ⟨_, rfl, _, Or.inr (Or.inl ⟨_, hS, rfl⟩), _, rfl, ?_⟩
      refine ite2 (fun d => ?_) (fun d => ?_)
      · have e1 : ns = [] := by
          cases ns with
          | nil => rfl
          | cons n r => exact absurd d (by simp)
        subst e1
        exact q H2 s2
      · have e1 : ns ≠ [] := fun z => d (by rw [z]; rfl)
        have hlen : 0 < ns.length := List.length_pos_iff.mpr e1
        have hlast : (ns.map V.int)[ns.length - 1]? = some (V.int (ns.getLast e1)) := by
          rw [List.getElem?_map, ← List.getLast?_eq_getElem?, List.getLast?_eq_some_getLast e1]
          rfl
        refine ⟨_, rfl, _, rfl, a, _, -1, V.int (ns.getLast e1), rfl, rfl, hS, ?_, rfl, ?_⟩
        · have h : ns.map V.int = ns.dropLast.map V.int ++ [V.int (ns.getLast e1)] := by
            have := congrArg (List.map V.int) (List.dropLast_concat_getLast e1).symm
            rw [List.map_append] at this
            exact this
          rw [h]
          exact atI_last _ _
        · have e2 : lastOk (ns.map V.int) = !decide (V.int (ns.getLast e1) = V.int 0) := by
            unfold lastOk
            rw [List.getLast?_map, List.getLast?_eq_some_getLast e1]
            show decide (ns.getLast e1 ≠ 0) = _
            by_cases z : ns.getLast e1 = 0
            · rw [z]; rfl
            · rw [decide_eq_true z, decide_eq_false (fun y => z (V.int.inj y))]; rfl
          rw [← e2]
          exact q H2 s2
    · have e0 : (k == Kd.tup && isRw xs) = false := by
        unfold isRw
        rw [← Bool.and_assoc]
        rw [Bool.not_eq_true] at c
        rw [c]
        rfl
      have := q H2 s2
      rw [e0] at this
      exact this
/-! ### the checks let -/
theorem arg_ints {K : PySem.W.Frag} {H : Hp} {t : Addr} {ns : List Int} (h : SqT K H t (ns.map V.int)) (hl : ns.length ≤ 1000) (hb : ∀ n ∈ ns, n.natAbs < 2 ^ 9000) : Arg K H (.ref t) .tup (ns.map V.int) := by
  refine ⟨tup_kd h, fun _ => ⟨t, rfl, h, by simpa using hl, fun y hy => ?_, fun i hi => ?_⟩⟩
  · obtain ⟨n, _, rfl⟩ := List.mem_map.mp hy
    exact ⟨⟨.int, .base (.int n)⟩, .int n, .int n, rfl, Nat.zero_le _⟩
  · obtain ⟨n, hn, e⟩ := List.mem_map.mp hi
    cases e
    exact hb _ hn
def spChk (K : PySem.W.Frag) (g : List V → Bool) : Sp := fun vs H Q _ => ∃ (v : V) (a : List Int), vs = [v] ∧ Tp K H v a ∧ a.length ≤ 1000 ∧ (∀ n ∈ a, n.natAbs < 2 ^ 9000) ∧ g (a.map V.int) = true ∧ ∀ H', Same H H' → Q .non H'
theorem ok_chkR {f : Addr} {fd : FuncData} (F : Fun K "check_row" "check_row" sChkR f fd) (H_row_fits : Has P w K mg base "row_fits" n_value 4 (spTold K isRw)) : FnOk P w K mg base CX0 5 f fd n_value (spChk K isRw) := by
  have sc : FnScope n_value n_value (defScope sChkR) := ⟨rfl, rfl, rfl, by decide +kernel, rfl, by decide +kernel, by decide +kernel⟩
  refine F.ok sc (fun vs H Q E h => ?_) (fun cdv A outer s H vs Q E hr h => ?_)
  · obtain ⟨_, _, rfl, _⟩ := h
    rfl
  · obtain ⟨va, a, rfl, ⟨ta, rfl, sa⟩, hl, hb, hg, q⟩ := h
    refine ⟨_, (pss_one (ps_if (pt_not (pt_val (pe_has H_row_fits (hr.mono (by decide)) (by rfl) (pa_cons (pv 0) pa_nil)))) (pss_one ps_never) pss_nil)), ?_⟩
    refine ⟨_, rfl, _, _, _, rfl, arg_ints sa hl hb, fun H1 s1 => ⟨true, by rw [hg]; rfl, iteF (q H1 s1)⟩⟩
/-! ### trimmed -/
def spTrim (K : PySem.W.Frag) : Sp := fun vs H Q _ => ∃ (a : Addr) (ns : List Int), vs = [.ref a] ∧ (SqL K H a (ns.map V.int) ∨ SqT K H a (ns.map V.int)) ∧ ns.length ≤ 1000 ∧ ∀ p H', Same H H' → Tp K H' p (trimL ns) → Q p H'
abbrev n_trimmed : List Str := ["numbers", "many"]
abbrev p_trimmed : List Str := ["numbers"]
theorem sc_trimmed : FnScope n_trimmed p_trimmed (defScope sTrim) := ⟨rfl, rfl, rfl, by decide +kernel, rfl, by decide +kernel, by decide +kernel⟩
/-- what the loop has left -/
def Left (ns : List Int) (a : Addr) (m : Nat) (σ : L2.St) : Prop := m ≤ ns.length ∧ σ = [some (.ref a), some (.int (m : Nat))] ∧ trimL (ns.take m) = trimL ns
theorem left_step {ns : List Int} {m : Nat} (h : ns[m]? = some 0) (e : trimL (ns.take (m + 1)) = trimL ns) : trimL (ns.take m) = trimL ns := by
  rw [take_last h, trim_snoc0] at e
  exact e
theorem left_end {ns : List Int} {m : Nat} {x : Int} (h : ns[m]? = some x) (hx : x ≠ 0) (e : trimL (ns.take (m + 1)) = trimL ns) : ns.take (m + 1) = trimL ns := by
  rw [← e, take_last h, trim_snoc hx]
theorem cut_to {ns : List Int} {m : Nat} : cutV (ns.map V.int) none (some (m : Int)) = (ns.take m).map V.int := by
  unfold cutV
  rw [HT.sIx_nat, HT.sIx_none, List.drop_zero, List.length_map, Nat.sub_zero, List.map_take]
  by_cases h : m ≤ ns.length
  · rw [Nat.min_eq_left h]
  · rw [Nat.min_eq_right (by omega), List.take_of_length_le (by simp), List.take_of_length_le (by simp; omega)]
theorem ok_trim {f : Addr} {fd : FuncData} (F : Fun K "trimmed" "trimmed" sTrim f fd) (T : Bl mg) : FnOk P w K mg base CX0 1 f fd p_trimmed (spTrim K) := by
  refine F.ok sc_trimmed (fun vs H Q E h => ?_) (fun cdv A outer s H vs Q E hr h => ?_)
  · obtain ⟨_, _, rfl, _⟩ := h
    rfl
  · obtain ⟨a, ns, rfl, hS | hS, hl, q⟩ := h
    · refine ⟨_, (pss_cons (ps_set (i := 1) sc_trimmed.nd rfl (Or.inl rfl) (pe_callB call_len_seq (by rfl) T.len PySem.boot_len (pa_cons (pv 0) pa_nil)))
      (pss_cons (ps_while PassesOwn.never ((pw_and (pt_cmpR op_gt (pv 1) pe_int (nomark _)) (pw_and1 (pt_cmpR op_eq (pe_ix ix_list (pv 0) (pe_op op_sub (pv 1) pe_int) (fun _ _ => rfl)) pe_int (nomark _))))).pt (pss_one (ps_set (i := 1) sc_trimmed.nd rfl (Or.inl rfl) (pe_op op_sub (pv 1) pe_int))))
      (pss_one (ps_ret (pe_callTy call_tuple_of (by rfl) T.tuple PyProof.Rows.boot_tuple (pa_cons (pe_slice sl_list (pv 0) po_none (po_some (pv 1))) pa_nil)))))), ?_⟩
      refine ⟨_, rfl, a, _, rfl, Or.inl hS, ?_⟩
      refine ⟨fun m σ H' => Left ns a m σ ∧ H' = H, ⟨ns.length, ⟨Nat.le_refl _, by rw [List.length_map]; rfl, by rw [List.take_length]⟩, rfl⟩, ?_⟩
      rintro m σ H' ⟨⟨hm, rfl, e⟩, rfl⟩
      refine ⟨_, rfl, _, _,
            rfl, rfl, _, rfl, ?_⟩
      refine ite2 (fun c
            => ?_) (fun c => ?_)
      · obtain ⟨j, rfl⟩ : ∃ j, m = j + 1 := ⟨m - 1, by have := of_decide_eq_true c; omega⟩
        have hj : j < ns.length := by omega
        refine ⟨_, rfl, _, rfl, _, _, rfl, rfl, a, _, _, V.int ns[j], rfl, rfl, hS, ?_, rfl, _, rfl, ?_⟩
        · rw [show (((j + 1 : Nat) : Int) - 1) = ((j : Nat) : Int) by omega]
          exact atI_nat (by simp [hj])
        · refine ite2 (fun d => ?_) (fun d => ?_)
          · have z : ns[j] = 0 := V.int.inj (of_decide_eq_true d)
            refine ⟨fun σ' H'' => Left ns a j σ' ∧ H'' = H', fun σ' H'' h => ⟨j, Nat.lt_succ_self j, h⟩, ⟨_, rfl, _, _, rfl, rfl, ⟨⟨by omega, ?_, left_step (by simp [hj, z]) e⟩, rfl⟩⟩⟩
            show [some (V.ref a), some (V.int (((j + 1 : Nat) : Int) - 1))] = _
            rw [show (((j + 1 : Nat) : Int) - 1) = ((j : Nat) : Int) by omega]
          · have z : ns[j] ≠ 0 := fun y => d (decide_eq_true (by rw [y]))
            have hend := left_end (by simp [hj]) z e
            refine ⟨_, rfl, _, rfl, ((j + 1 : Nat) : Int), rfl, a, _, rfl, hS, fun p hp => ⟨p, _, rfl, Or.inl ⟨SqL.of upd_same, fun l hl2 => ?_⟩⟩⟩
            refine q _ _ ((same_new hp).trans (same_new hl2)) ⟨l, rfl, ?_⟩
            rw [cut_to, hend]
            exact SqT.of upd_same
      · have z : m = 0 := Nat.eq_zero_of_not_pos fun y => c (decide_eq_true (by omega))
        subst z
        have hend : ns.take 0 = trimL ns := e
        refine ⟨_, rfl, _, rfl, ((0 : Nat) : Int), rfl, a, _, rfl, hS, fun p hp => ⟨p, _, rfl, Or.inl ⟨SqL.of upd_same, fun l hl2 => ?_⟩⟩⟩
        refine q _ _ ((same_new hp).trans (same_new hl2)) ⟨l, rfl, ?_⟩
        rw [cut_to, hend]
        exact SqT.of upd_same
    · refine ⟨_, (pss_cons (ps_set (i := 1) sc_trimmed.nd rfl (Or.inl rfl) (pe_callB call_len_seq (by rfl) T.len PySem.boot_len (pa_cons (pv 0) pa_nil)))
      (pss_cons (ps_while PassesOwn.never ((pw_and (pt_cmpR op_gt (pv 1) pe_int (nomark _)) (pw_and1 (pt_cmpR op_eq (pe_ix ix_tup (pv 0) (pe_op op_sub (pv 1) pe_int) (fun _ _ => rfl)) pe_int (nomark _))))).pt (pss_one (ps_set (i := 1) sc_trimmed.nd rfl (Or.inl rfl) (pe_op op_sub (pv 1) pe_int))))
      (pss_one (ps_ret (pe_callTy call_tuple_of (by rfl) T.tuple PyProof.Rows.boot_tuple (pa_cons (pe_slice sl_tupA (pv 0) po_none (po_some (pv 1))) pa_nil)))))), ?_⟩
      refine ⟨_, rfl, a, _, rfl, Or.inr hS, ?_⟩
      refine ⟨fun m σ H' => Left ns a m σ ∧ H' = H, ⟨ns.length, ⟨Nat.le_refl _, by rw [List.length_map]; rfl, by rw [List.take_length]⟩, rfl⟩, ?_⟩
      rintro m σ H' ⟨⟨hm, rfl, e⟩, rfl⟩
      refine ⟨_, rfl, _, _,
            rfl, rfl, _, rfl, ?_⟩
      refine ite2 (fun c
            => ?_) (fun c => ?_)
      · obtain ⟨j, rfl⟩ : ∃ j, m = j + 1 := ⟨m - 1, by have := of_decide_eq_true c; omega⟩
        have hj : j < ns.length := by omega
        refine ⟨_, rfl, _, rfl, _, _, rfl, rfl, a, _, _, V.int ns[j], rfl, rfl, hS, ?_, rfl, _, rfl, ?_⟩
        · rw [show (((j + 1 : Nat) : Int) - 1) = ((j : Nat) : Int) by omega]
          exact atI_nat (by simp [hj])
        · refine ite2 (fun d => ?_) (fun d => ?_)
          · have z : ns[j] = 0 := V.int.inj (of_decide_eq_true d)
            refine ⟨fun σ' H'' => Left ns a j σ' ∧ H'' = H', fun σ' H'' h => ⟨j, Nat.lt_succ_self j, h⟩, ⟨_, rfl, _, _, rfl, rfl, ⟨⟨by omega, ?_, left_step (by simp [hj, z]) e⟩, rfl⟩⟩⟩
            show [some (V.ref a), some (V.int (((j + 1 : Nat) : Int) - 1))] = _
            rw [show (((j + 1 : Nat) : Int) - 1) = ((j : Nat) : Int) by omega]
          · have z : ns[j] ≠ 0 := fun y => d (decide_eq_true (by rw [y]))
            have hend := left_end (by simp [hj]) z e
            refine ⟨_, rfl, _, rfl, ((j + 1 : Nat) : Int), rfl, a, _, rfl, hS, fun cw => ?_, fun cw p hp => ?_⟩
            · refine ⟨a, _, rfl, Or.inr ⟨hS, q _ _ (Same.refl _) ⟨a, rfl, ?_⟩⟩⟩
              have e0 := cw.2
              rw [HT.sIx_nat, List.length_map] at e0
              rw [← hend, List.take_of_length_le (by omega)]
              exact hS
            · refine ⟨p, _, rfl, Or.inr ⟨SqT.of upd_same, q _ _ (same_new hp) ⟨p, rfl, ?_⟩⟩⟩
              rw [← hend, ← cut_to]
              exact SqT.of upd_same
      · have z : m = 0 := Nat.eq_zero_of_not_pos fun y => c (decide_eq_true (by omega))
        subst z
        have hend : ns.take 0 = trimL ns := e
        refine ⟨_, rfl, _, rfl, ((0 : Nat) : Int), rfl, a, _, rfl, hS, fun cw => ?_, fun cw p hp => ?_⟩
        · refine ⟨a, _, rfl, Or.inr ⟨hS, q _ _ (Same.refl _) ⟨a, rfl, ?_⟩⟩⟩
          have e0 := cw.2
          rw [HT.sIx_nat, List.length_map] at e0
          rw [← hend, List.take_of_length_le (by omega)]
          exact hS
        · refine ⟨p, _, rfl, Or.inr ⟨SqT.of upd_same, q _ _ (same_new hp) ⟨p, rfl, ?_⟩⟩⟩
          rw [← hend, ← cut_to]
          exact SqT.of upd_same
end
end K5

namespace Ur
open PySem L2 PyProof.Rows
theorem Made.on {H H3 H4 : Hp} {Pe : Nat → V → Prop} {D : Addr} {i : Nat} (m : Made H Pe D i H3) (s : Same H3 H4) : Made H Pe D i H4 := by
  obtain ⟨hn, sm, ys, h1, h2, h3⟩ := m
  exact ⟨hn, sm.trans s, ys, s _ _ h1, h2, h3⟩
/-- the target of enumerate's pairs -/
abbrev gPair (K : PySem.W.Frag) (i j : Nat) : TG := gTup K 2 (gCons (gName i) (gCons (gName j) gNil))
theorem pair_in {K : PySem.W.Frag} {i j : Nat} {T : Addr} {x y : V} {σ : L2.St} {H : Hp} {Q : L2.St → Hp → Prop} (h : H T = some (.tup [x, y])) (q : Q ((σ.set i (some x)).set j (some y)) H) : gPair K i j (.ref T) σ H Q :=
  ⟨T, [x, y], rfl, SqT.of h, rfl, x, [y], rfl, y, [], rfl, rfl, q⟩
section
variable {K : PySem.W.Frag} {a : Addr} {xs : List V} {te : TE} {ta : TA} {vs : List Nat} {i1 j1 : Nat} {σ : L2.St} {H : Hp} {Q : VK}
theorem lc_pairs {J : L2.It} {G : Hp → Prop} (Pe : Nat → V → Prop) (W : Walk J xs.length G (fun i H v H' => ∃ T x, v = .ref T ∧ H T = none ∧ H' = upd H T (.tup [.int (i : Nat), x]) ∧ xs[i]? = some x)) (hG : ∀ H', Same H H' → G H') (hz : xs.length ≤ 100000)
    (hw : ∀ x y, wipe (((wipe σ vs).set i1 (some x)).set j1 (some y)) vs = wipe σ vs)
    (he : ∀ (i : Nat) x H3, xs[i]? = some x → Same H H3 → ∀ Q' : VK, (∀ y H4, Pe i y → Same H3 H4 → Q' y H4) → te (((wipe σ vs).set i1 (some (.int (i : Nat)))).set j1 (some x)) H3 Q')
    (hq : ∀ D ys H', H D = none → Same H H' → H' D = some (.lst ys) → ys.length = xs.length → (∀ i y, ys[i]? = some y → Pe i y) → Q (.ref D) H') (D : Addr) (hD : H D = none) :
    ∃ W : Nat → Nat → Hp → Prop, (∃ m, W 0 m (upd H D (.lst []))) ∧ ∀ i m H, W i m H →
      (J.stop i H ∧ Q (.ref D) H) ∨ (J.go i H ∧ ∃ Nx : Hp → Prop, (∀ H', Nx H' → ∃ m', m' < m ∧ W (i + 1) m' H') ∧ ∀ x H', J.yld i H x H' → gPair K i1 j1 x (wipe σ vs) H' fun σ2 H2 => wipe σ2 vs = wipe σ vs ∧ tYes σ2 H2 fun b H3 =>
        if b = true then te σ2 H3 fun y H4 => ∃ acc, H4 D = some (.lst acc) ∧
              acc.length < sizeLine ∧ Nx (upd H4 D (.lst (acc ++ [y]))) else Nx H3) := by
  refine lc_it W (Qd := Q (.ref D)) (Made H Pe D) (.start hD) (fun i H' _ m => hG _ m.same) (fun i v H3 H' hi m hY => ?_) (fun H' ⟨hn, sm, ys, h1, h2, h3⟩ => hq D ys H' hn sm h1 h2 h3)
  obtain ⟨T, x, rfl, hT, rfl, hx⟩ := hY
  have s3 := same_new (p := T) (o := HO.tup [.int (i : Nat), x]) hT
  refine pair_in upd_same ⟨hw _ _, ?_⟩
  unfold tYes
  dsimp only
  rw [if_pos rfl]
  exact (m.on s3).turn (by omega) (he i x _ hx (m.same.trans s3))
/-- [e for i, x in enumerate(l)], l a list -/
theorem lcE (Pe : Nat → V → Prop) (hx : ∀ R : List V → Hp → Prop, R [.ref a] H → ta σ H R) (hs : SqL K H a xs) (hz : xs.length ≤ 100000)
    (hw : ∀ x y, wipe (((wipe σ vs).set i1 (some x)).set j1 (some y)) vs = wipe σ vs)
    (he : ∀ (i : Nat) x H3, xs[i]? = some x → Same H H3 → ∀ Q' : VK, (∀ y H4, Pe i y → Same H3 H4 → Q' y H4) → te (((wipe σ vs).set i1 (some (.int (i : Nat)))).set j1 (some x)) H3 Q')
    (hq : ∀ D ys H', H D = none → Same H H' → H' D = some (.lst ys) → ys.length = xs.length → (∀ i y, ys[i]? = some y → Pe i y) → Q (.ref D) H') : tLc (iEnum K ta) (gPair K i1 j1) tYes te vs σ H Q := by
  refine hx _ ⟨a, xs, rfl, hs, fun D hD => ?_⟩
  refine lc_pairs Pe ⟨walk_enum.goes, walk_enum.stops, fun i H v H' hi q y => ?_⟩ (fun H' s => s.seq hs) hz hw he hq D hD
  obtain ⟨T, x, y', h1, h2, h3, h4, h5⟩ := walk_enum.yields i H v H' hi q y
  cases h4
  exact ⟨T, y', h1, h2, h3, h5⟩
/-- [e for i, x in enumerate(t)], t a tuple -/
theorem lcET (Pe : Nat → V → Prop) (hx : ∀ R : List V → Hp → Prop, R [.ref a] H → ta σ H R) (hs : SqT K H a xs) (hz : xs.length ≤ 100000)
    (hw : ∀ x y, wipe (((wipe σ vs).set i1 (some x)).set j1 (some y)) vs = wipe σ vs)
    (he : ∀ (i : Nat) x H3, xs[i]? = some x → Same H H3 → ∀ Q' : VK, (∀ y H4, Pe i y → Same H3 H4 → Q' y H4) → te (((wipe σ vs).set i1 (some (.int (i : Nat)))).set j1 (some x)) H3 Q')
    (hq : ∀ D ys H', H D = none → Same H H' → H' D = some (.lst ys) → ys.length = xs.length → (∀ i y, ys[i]? = some y → Pe i y) → Q (.ref D) H') : tLc (iEnumT K ta) (gPair K i1 j1) tYes te vs σ H Q := by
  refine hx _ ⟨a, xs, rfl, hs, fun D hD => ?_⟩
  exact lc_pairs Pe walk_enumT (fun H' s => same_sqT s hs) hz hw he hq D hD
end
end Ur
namespace Ur
open PySem L2 PyProof.Rows
def rLen (K : PySem.W.Frag) : List V → Hp → VK → Prop := fun xs H Q => ∃ p ys, xs = [V.ref p] ∧ (SqL K H p ys ∨ SqT K H p ys) ∧ Q (.int (ys.length : Nat)) H
theorem len_seq {X : Cx} : CallR X (.builtin "len") (rLen X.K) := call_len_seq
end Ur

namespace K5
open PySem L2 Ur
/-! ### sums -/
def addL : List Int → List Int → List Int
  | [], b => b
  | a, [] => a
  | x :: a, y :: b => (x + y) :: addL a b
theorem addL_nil (a : List Int) : addL a [] = a := by cases a <;> rfl
theorem addL_len : ∀ a b : List Int, (addL a b).length = max a.length b.length
  | [], b => by simp [addL]
  | x :: a, [] => by simp [addL]
  | x :: a, y :: b => by
    show (addL a b).length + 1 = max (a.length + 1) (b.length + 1)
    rw [addL_len a b]
    omega
theorem addL_at : ∀ (a b : List Int) (i : Nat), i < max a.length b.length → (addL a b)[i]? = some (a.getD i 0 + b.getD i 0)
  | [], b, i, h => by
    have : i < b.length := by simpa using h
    simp [addL, this]
  | x :: a, [], i, h => by
    have : i < (x :: a).length := by simpa using h
    rw [addL_nil, List.getElem?_eq_getElem this]
    rw [List.getD_eq_getElem?_getD, List.getElem?_eq_getElem this]
    simp
  | x :: a, y :: b, 0, h => rfl
  | x :: a, y :: b, i + 1, h => by
    show (addL a b)[i]? = _
    rw [addL_at a b i (by simp at h ⊢; omega)]
    rfl
def spRow2 (K : PySem.W.Frag) (f : List Int → List Int → List Int) : Sp := fun vs H Q _ => ∃ (v v' : V) (a b : List Int), vs = [v, v'] ∧ Tp K H v a ∧ Tp K H v' b ∧ a.length ≤ 100 ∧ b.length ≤ 100 ∧ (∀ n ∈ a, n.natAbs < 2 ^ 9000) ∧ (∀ n ∈ b, n.natAbs < 2 ^ 9000) ∧ ∀ p H', Same H H' → Tp K H' p (f a b) → Q p H'
section
variable {P : Program} {w : World} {K :
      PySem.W.Frag} {mg : Str → Option Value} {base : Heap}
abbrev n_rplus : List Str := ["row", "other", "many", "longer", "k", "n"]
abbrev p_ro : List Str := ["row", "other"]
end
end K5

namespace K5
open PySem L2 Ur
/-! ### growth -/
def growL (a : List Int) : List Int := (List.range (a.length - 1)).map fun i => ((i + 1 : Nat) : Int) * a.getD (i + 1) 0
def idxL (a : List Int) : List Int := (List.range a.length).map fun i => ((i : Nat) : Int) * a.getD i 0
theorem idx_drop (a : List Int) : (idxL a).drop 1 = growL a := by
  unfold idxL growL
  apply List.ext_getElem?
  intro i
  rw [List.getElem?_drop, List.getElem?_map, List.getElem?_map]
  by_cases h : i < a.length - 1
  · rw [List.getElem?_range h, List.getElem?_range (by omega), Nat.add_comm 1 i]
    rfl
  · rw [List.getElem?_eq_none (by rw [List.length_range]; omega), List.getElem?_eq_none (by rw [List.length_range]; omega)]
    rfl
structure RowOk (a : List Int) : Prop where
  few : a.length ≤ 13
  last : lastOk (a.map V.int) = true
  big : ∀ n ∈ a, n.natAbs < 2 ^ 200
theorem RowOk.rw {a : List Int} (h : RowOk a) : isRw (a.map V.int) = true := by
  unfold isRw isNums
  rw [List.length_map, decide_eq_true h.few, all_ints, h.last]
  rfl
theorem RowOk.b9 {a : List Int} (h : RowOk a) : ∀ n ∈ a, n.natAbs < 2 ^ 9000 := fun n hn => Nat.lt_trans (h.big n hn) (Nat.pow_lt_pow_right (by decide) (by decide))
theorem lastOk_ne {a : List Int} (h : lastOk (a.map V.int) = true) (h0 : a ≠ []) : a.getLast h0 ≠ 0 := by
  unfold lastOk at h
  rw [List.getLast?_map, List.getLast?_eq_some_getLast h0] at h
  exact of_decide_eq_true h
theorem gAll_dvd : ∀ (ns : List Int) (g : Nat), ns.foldl (fun g n => Nat.gcd g n.natAbs) g ∣ g ∧ ∀ n ∈ ns, ns.foldl (fun g n => Nat.gcd g n.natAbs) g ∣ n.natAbs
  | [], g => ⟨Nat.dvd_refl _, fun _ h => nomatch h⟩
  | n :: r, g => by
    obtain ⟨h1, h2⟩ := gAll_dvd r (Nat.gcd g n.natAbs)
    refine ⟨Nat.dvd_trans h1 (Nat.gcd_dvd_left _ _), fun m hm => ?_⟩
    rcases List.mem_cons.mp
          hm with rfl | hm
    · exact Nat.dvd_trans h1 (Nat.gcd_dvd_right _ _)
    · exact h2 m hm
theorem gAll_pos {a : List Int} {x : Int} (hx : x ∈ a) (h : x ≠ 0) : 0 < gAll a := by
  have := (gAll_dvd a 0).2 x hx
  exact Nat.pos_of_dvd_of_pos this (by omega)
theorem RowOk.g {a : List Int} (h : RowOk a) (h0 : a ≠ []) : 0 < gAll a := gAll_pos (List.getLast_mem h0) (lastOk_ne h.last h0)
def shortL (a : List Int) : List Int := a.map fun n => n / (gAll a : Int)
def spRow1 (K : PySem.W.Frag) (f : List Int → List Int) : Sp := fun vs H Q _ => ∃ (v : V) (a : List Int), vs = [v] ∧ Tp K H v a ∧ RowOk a ∧ ∀ p H', Same H H' → Tp K H' p (f a) → Q p H'
theorem vals_map {ys : List V} {f : Nat → Int} {n : Nat} (hl : ys.length = n) (h : ∀ (i : Nat) (y : V), ys[i]? = some y → y = V.int (f i)) : ys = ((List.range n).map f).map V.int := by
  apply List.ext_getElem?
  intro i
  rw [List.getElem?_map,
        List.getElem?_map]
  by_cases hi : i < n
  · have hi' : i < ys.length := by omega
    rw [List.getElem?_range hi, List.getElem?_eq_getElem hi', h i _ (List.getElem?_eq_getElem hi')]
    rfl
  · rw [List.getElem?_eq_none (l := ys) (by omega), List.getElem?_eq_none (by rw [List.length_range]; omega)]
    rfl
section
variable {P : Program} {w : World} {K :
      PySem.W.Frag} {mg : Str → Option Value} {base : Heap}
abbrev n_rgrow : List Str := ["row", "k", "n"]
abbrev p_r : List Str := ["row"]
abbrev n_rshort : List Str := ["row", "divisor", "n"]
theorem sc_rshort : FnScope n_rshort p_r (defScope sRShort) := ⟨rfl, rfl, rfl, by decide +kernel, rfl, by decide +kernel, by decide +kernel⟩
theorem ok_rshort {f : Addr} {fd : FuncData} (F : Fun K "row_shortest" "row_shortest" sRShort f fd) (T : Bl mg) (H_common_divisor : Has P w K mg base "common_divisor" p_common_divisor 1 (spCom K)) : FnOk P w K mg base CX0 2 f fd p_r (spRow1 K shortL) := by
  refine F.ok sc_rshort (fun vs H Q E h => ?_) (fun cdv A outer s H vs Q E hr h => ?_)
  · obtain ⟨_, _, rfl, _⟩ := h
    rfl
  · obtain ⟨va, a, rfl, ⟨ta, rfl, sa⟩, R, q⟩ := h
    refine ⟨_, (pss_cons (ps_set (i := 1) sc_rshort.nd rfl (Or.inr rfl) (pe_has H_common_divisor (hr.mono (by decide)) (by rfl) (pa_cons (pv 0) pa_nil)))
      (pss_one (ps_ret (pe_callTy call_tuple_of (by rfl) T.tuple PyProof.Rows.boot_tuple (pa_cons (pe_lc (own := [("n", 2)]) (g := gName 2) (tt := tYes) rfl sc_rshort.nd (pi_tup (pv 0)) (blkOk_by (N := n_rshort) (sc := defScope sRShort) (by decide +kernel)) (fun _ _ _ _ _ => pg_name (i := 2) sc_rshort.nd rfl (Or.inl rfl)) (fun _ _ _ _ _ => pts_nil) (fun _ _ _ _ _ => (pe_op op_fdivW (pv 2) (pv 1)))) pa_nil))))), ?_⟩
    have hl := R.few
    have gb : gAll a < 2 ^ 9000 := gAll_big a 0 big0 R.b9
    refine ⟨_, rfl, ta, a, rfl, sa, ?_⟩
    unfold tRet tCB tCons tNil gName
    dsimp only
    refine lcT (K := K) (a := ta) (xs := a.map V.int) (fun i y => y = .int (a.getD i 0 / (gAll a : Int))) (fun R r => ⟨_, rfl, r⟩) sa (by rw [List.length_map]; omega) (fun x => rfl) (fun i x H3 hi sm Q' q' => ?_) (fun D ys H2 hD s2 hy e1 e2 => ?_)
    · obtain ⟨z, hz, rfl⟩ := map_at hi
      have hne : a ≠ [] := fun h => by rw [h] at hz; cases hz
      have g0 := R.g hne
      refine ⟨_, rfl, _, rfl, _, _, rfl, rfl, wide_div (b := 9000) (by omega) (by simpa using gb) (by decide) (by decide), q' _ _ ?_ (Same.refl _)⟩
      rw [List.getD_eq_getElem?_getD, hz]
      rfl
    · have ey := vals_map (e1.trans (List.length_map ..)) e2
      refine ⟨D, ys, rfl, Or.inl ⟨SqL.of hy, fun l hl => q _ _ (s2.trans (same_new hl)) ⟨l, rfl, ?_⟩⟩⟩
      have es : shortL a = (List.range a.length).map fun i => a.getD i 0 / (gAll a : Int) := by
        unfold shortL
        apply List.ext_getElem?
        intro i
        rw [List.getElem?_map,
              List.getElem?_map]
        by_cases hi : i < a.length
        · rw [List.getElem?_range hi, List.getElem?_eq_getElem hi, Option.map_some, Option.map_some, List.getD_eq_getElem?_getD, List.getElem?_eq_getElem hi]
          rfl
        · rw [List.getElem?_eq_none (by omega), List.getElem?_eq_none (by rw [List.length_range]; omega)]
          rfl
      rw [es, ← ey]
      exact SqT.of upd_same
end
end K5

namespace K5
open PySem L2 Ur
/-! ### worths, the top number -/
def Hh (n m : Int) : List Int → Int
  | [] => 0
  | c :: r => c * m ^ r.length + n * Hh n m r
structure FrL (n : Nat) (a : List Int) (t b : Int) : Prop where
  eq : a = [t, b]
  pos : 0 < b
  red : Nat.gcd t.natAbs b.natAbs = 1
  bt : t.natAbs ≤ n
  bb : b.natAbs ≤ n
theorem pow9 {m : Int} (h : m.natAbs ≤ 9) : ∀ k : Nat, (m ^ k).natAbs ≤ 9 ^ k
  | 0 => by rw [Int.pow_zero]; exact Nat.le_refl 1
  | k + 1 => by
    rw [Int.pow_succ, Int.natAbs_mul, Nat.pow_succ]
    exact Nat.mul_le_mul (pow9 h k) h
theorem pow_pos9 {m : Int} (h : 0 < m) : ∀ k : Nat, 0 < m ^ k
  | 0 => by rw
        [Int.pow_zero]; decide
  | k + 1 => by
    rw [Int.pow_succ]
    exact Int.mul_pos (pow_pos9 h k) h
theorem pow64 {m : Int} (h : m.natAbs ≤ 9) {k : Nat} (hk : k ≤ 14) : -(2 ^ 64) < m ^ k ∧ m ^ k < 2 ^ 64 := by
  have a := pow9 h k
  have b : 9 ^ k ≤ 9 ^ 14 := Nat.pow_le_pow_right (by decide) hk
  have c : 9 ^ 14 < 2 ^ 64 := by decide
  omega
theorem h_le {n m : Int} (hn : n.natAbs ≤ 9) (hm : m.natAbs ≤ 9) : ∀ {a : List Int}, (∀ z ∈ a, z.natAbs < 2 ^ 200) → (Hh n m a).natAbs ≤ a.length * (2 ^ 200 * 9 ^ a.length)
  | [], _ => Nat.zero_le _
  | c :: r, h => by
    have i1 := h_le hn hm (a := r) fun z hz => h z (List.mem_cons_of_mem _ hz)
    have i2 := h c List.mem_cons_self
    have e1 : (c * m ^ r.length).natAbs ≤ 2 ^ 200 * 9 ^ r.length := by
      rw [Int.natAbs_mul]
      exact Nat.mul_le_mul (Nat.le_of_lt i2) (pow9 hm _)
    have e2 : (n * Hh n m r).natAbs ≤ 9 * (r.length * (2 ^ 200 * 9 ^ r.length)) := by
      rw [Int.natAbs_mul]
      exact Nat.mul_le_mul hn i1
    have e3 : (c * m ^ r.length + n * Hh n m r).natAbs ≤ (c * m ^ r.length).natAbs + (n * Hh n m r).natAbs := Int.natAbs_add_le _ _
    show (c * m ^ r.length + n * Hh n m r).natAbs ≤ (r.length + 1) * (2 ^ 200 * 9 ^ (r.length + 1))
    rw [show 9 ^ (r.length + 1) = 9 ^ r.length * 9 from Nat.pow_succ ..]
    have f1 : (r.length + 1) * (2 ^ 200 * (9 ^ r.length * 9)) = 9 * (r.length * (2 ^ 200 * 9 ^ r.length)) + 9 * (2 ^ 200 * 9 ^ r.length) := by
      generalize 2 ^ 200 = X
      generalize 9 ^ r.length = Y
      generalize r.length = L
      grind
    rw [f1]
    generalize r.length * (2 ^ 200 * 9 ^ r.length) = Z at e2 ⊢
    generalize 2 ^ 200 * 9 ^ r.length = Y at e1 ⊢
    omega
theorem h_250 {n m : Int} (hn : n.natAbs ≤ 9) (hm : m.natAbs ≤ 9) {a : List Int} (R : RowOk a) : (Hh n m a).natAbs ≤ 2 ^ 250 := by
  refine Nat.le_trans (h_le hn hm R.big) ?_
  have h1 := R.few
  have h2 : 9 ^ a.length ≤ 9 ^ 13 := Nat.pow_le_pow_right (by decide) h1
  refine Nat.le_trans (Nat.mul_le_mul h1 (Nat.mul_le_mul (Nat.le_refl _) h2)) ?_
  decide
theorem h_1000 {n m : Int} (hn : n.natAbs ≤ 9) (hm : m.natAbs ≤ 9) {a : List Int} (R : RowOk a) : (Hh n m a).natAbs ≤ 2 ^ 1000 :=
  Nat.le_trans (h_250 hn hm R) (Nat.pow_le_pow_right (by decide) (by decide))
theorem walk_rt {K : PySem.W.Frag} {a : Addr} {xs : List V} : Walk (RT.ItvT K a xs.length) xs.length (fun H => SqT K H a xs) (fun i H x H' => H' = H ∧ xs[xs.length - 1 - i]? = some x) :=
  ⟨fun i _ hi q => ⟨hi, xs, xs[xs.length - 1 - i]'(by omega), q, by simp [show xs.length - 1
        - i < xs.length by omega]⟩, fun _ _ => Nat.le_refl _, fun _ _ _ _ _ q y => ⟨y.1, y.2 xs q⟩⟩
def spWorthT (K : PySem.W.Frag) : Sp := fun vs H Q _ => ∃ (v v' : V) (a e : List Int) (n m : Int), vs = [v, v'] ∧ Tp K H v a ∧ Tp K H v' e ∧ RowOk a ∧ FrL 9 e n m ∧ ∀ H', Same H H' → Q (.int (Hh n m a)) H'
section
variable {P : Program} {w : World} {K :
      PySem.W.Frag} {mg : Str → Option Value} {base : Heap}
abbrev n_worthT : List Str := ["row", "at", "n", "m", "found", "power", "number"]
abbrev p_ra : List Str := ["row", "at"]
theorem FrL.chk {a : List Int} {t b : Int} (R : FrL 9 a t b) : a.length ≤ 1000 ∧ (∀ z ∈ a, z.natAbs < 2 ^ 9000) ∧ isFr (a.map V.int) = true := by
  have e := R.eq
  subst e
  refine ⟨by show 2 ≤ 1000; decide, fun z hz => ?_, ?_⟩
  · have h9 : (9 : Nat) < 2 ^ 9000 := Nat.lt_of_lt_of_le (by decide : 9 < 2 ^ 4) (Nat.pow_le_pow_right (by decide) (by decide))
    simp only [List.mem_cons, List.not_mem_nil, or_false] at hz
    rcases hz with rfl | rfl
    · exact Nat.lt_of_le_of_lt R.bt h9
    · exact Nat.lt_of_le_of_lt R.bb h9
  · show (decide (0 < b) && decide (Nat.gcd t.natAbs b.natAbs = 1)) = true
    rw [decide_eq_true R.pos, decide_eq_true R.red]
    rfl
theorem RowOk.l3 {a : List Int} (R : RowOk a) : a.length ≤ 1000 := Nat.le_trans R.few (by decide)
def worthL (n m : Int) (a : List Int) : List Int := thin [Hh n m a, m ^ (a.length - 1)]
def spWorth (K : PySem.W.Frag) : Sp := fun vs H Q _ => ∃ (v v' : V) (a e : List Int) (n m : Int), vs = [v, v'] ∧ Tp K H v a ∧ Tp K H v' e ∧ RowOk a ∧ FrL 9 e n m ∧ ∀ p H', Same H H' → Tp K H' p (worthL n m a) → Q p H'
abbrev n_worth : List Str := ["row", "at", "bottom", "_"]
end
end K5

namespace K5
open PySem L2 Ur
/-! ### products -/
def lst (N : Nat) (f : Nat → Int) : List Int := (List.range N).map f
def rowAdd (g : Nat → Int) (k : Nat) (x : Int) (b : List Int) (j : Nat) : Nat → Int := fun i => g i + if k ≤ i ∧ i - k < j then x * b.getD (i - k) 0 else 0
def cv (a b : List Int) : Nat → Nat → Int
  | 0 => fun _ => 0
  | k + 1 => rowAdd (cv a b k) k (a.getD k 0) b b.length
theorem lst_at {N : Nat} {f : Nat → Int} {i : Nat} (h : i < N) : (lst N f)[i]? = some (f i) := by
  unfold lst
  rw [List.getElem?_map, List.getElem?_range h]
  rfl
theorem lst_len {N : Nat} {f : Nat → Int} : (lst N f).length = N := by
  unfold lst
  rw [List.length_map,
        List.length_range]
theorem lst_set {N p : Nat} {f g : Nat → Int} {v : Int} (hg : ∀ i, i < N → g i = if i = p then v else f i) : (lst N f).set p v = lst N g := by
  apply List.ext_getElem?
  intro i
  by_cases h : i < N
  · rw [lst_at h, hg i h, List.getElem?_set]
    by_cases e : p = i
    · subst e
      rw [if_pos rfl, if_pos (by rw [lst_len]; exact h), if_pos rfl]
    · rw [if_neg e, if_neg (fun z => e z.symm), lst_at h]
  · rw [List.getElem?_eq_none (by rw [List.length_set, lst_len]; omega), List.getElem?_eq_none (by rw [lst_len]; omega)]
theorem rowAdd_zero {g : Nat → Int} {k : Nat} {x : Int} {b : List Int} : rowAdd g k x b 0 = g := by
  funext i
  unfold rowAdd
  rw [if_neg (by omega), Int.add_zero]
theorem rowAdd_step {g : Nat → Int} {k : Nat} {x : Int} {b : List Int} {j : Nat} (i : Nat) : rowAdd g k x b (j + 1) i = if i = k + j then rowAdd g k x b j (k + j) + x * b.getD j 0 else rowAdd g k x b j i := by
  unfold rowAdd
  by_cases h : i = k + j
  · subst h
    rw [if_pos rfl, if_pos ⟨by omega, by omega⟩, if_neg (by omega), Nat.add_sub_cancel_left, Int.add_zero]
  · rw [if_neg h]
    by_cases h2 : k ≤ i ∧ i - k < j
    · rw [if_pos h2, if_pos ⟨h2.1, by omega⟩]
    · rw [if_neg h2, if_neg (by omega)]
def mulL (a b : List Int) : List Int := trimL (lst (a.length + b.length) (cv a b a.length))
theorem cv_zero {a b : List Int} : ∀ {k i : Nat}, k + b.length ≤ i + 1 → cv a b k i = 0
  | 0, _, _ => rfl
  | k + 1, i, h => by
    show cv a b k i + (if k ≤ i ∧ i - k < b.length then _ else 0) = 0
    rw [cv_zero (by omega), if_neg (by omega)]
    rfl
theorem lst_succ (N : Nat) (f : Nat → Int) : lst (N + 1) f = lst N f ++ [f N] := by
  unfold lst
  rw [List.range_succ, List.map_append]
  rfl
theorem trim_zeros {f : Nat → Int} : ∀ {N : Nat}, (∀ i, i < N → f i = 0) → trimL (lst N f) = []
  | 0, _ => rfl
  | N + 1, h => by
    rw [lst_succ, h N (Nat.lt_succ_self N), trim_snoc0]
    exact trim_zeros fun i hi => h i (Nat.lt_succ_of_lt hi)
theorem cv_nil {a : List Int} : ∀ (k i : Nat), cv a [] k i = 0
  | 0, _ => rfl
  | k + 1, i => by
    show cv a [] k i + (if k ≤ i ∧ i - k < 0 then _ else 0) = 0
    rw [cv_nil k i, if_neg (by omega)]
    rfl
theorem mul_nil1 (b : List Int) : mulL [] b = [] := trim_zeros fun _ _ => rfl
theorem mul_nil2 (a : List Int) : mulL a [] = [] := trim_zeros fun i _ => cv_nil _ i
theorem mul_less {a b : List Int} (h : 0 < a.length + b.length) : mulL a b = trimL (lst (a.length + b.length - 1) (cv a b a.length)) := by
  unfold mulL
  obtain ⟨N, e⟩ : ∃ N, a.length + b.length = N + 1 := ⟨a.length + b.length - 1, by omega⟩
  rw [e, lst_succ, cv_zero (by omega), trim_snoc0]
  rfl
theorem zeros_lst (N : Nat) : (List.replicate N [V.int 0]).flatten = (lst N fun _ => 0).map V.int := by
  unfold lst
  rw [List.map_map]
  induction N with
  | zero => rfl
  | succ n ih => rw [List.replicate_succ', List.flatten_append, ih, List.range_succ, List.map_append]; rfl
/-- a list of one's own that is being filled -/
structure Found (H : Hp) (D : Addr) (N : Nat) (g : Nat → Int) (H' : Hp) : Prop where
  new : H D = none
  same : Same H H'
  held : H' D = some (.lst ((lst N g).map V.int))
theorem Found.pair {H H' : Hp} {D T : Addr} {N : Nat} {g : Nat → Int} {o : HO} (f : Found H D N g H') (h : H' T = none) : Found H D N g (upd H' T o) :=
  ⟨f.new, f.same.trans (same_new h), same_new h _ _ f.held⟩
theorem Found.put {H H' : Hp} {D : Addr} {N p : Nat} {f g : Nat → Int} {v : Int} (F : Found H D N f H') (hg : ∀ i, i < N → g i = if i = p then v else f i) : Found H D N g (upd H' D (.lst (((lst N f).map V.int).set p (.int v)))) := by
  refine ⟨F.new, same_own F.same F.new, ?_⟩
  rw [upd_same, ← List.map_set, lst_set hg]
section
variable {P : Program} {w : World} {K :
      PySem.W.Frag} {mg : Str → Option Value} {base : Heap}
abbrev n_rtimes : List Str := ["row", "other", "found", "k", "n", "j", "m"]
def spTimes (K : PySem.W.Frag) : Sp := fun vs H Q _ => ∃ (v v' : V) (a b : List Int), vs = [v, v'] ∧ Tp K H v a ∧ Tp K H v' b ∧ a.length ≤ 100 ∧ b.length ≤ 100 ∧ (∀ n ∈ a, n.natAbs < 2 ^ 64) ∧ ∀ p H', Same H H' → Tp K H' p (mulL a b) → Q p H'
end
end K5

namespace K5
open PySem L2 Ur
theorem trim_last : ∀ l : List Int, (trimL l).getLast? ≠ some 0
  | [] => by decide
  | x :: r => by
    unfold trimL
    split
    · decide
    · rename_i h
      have ih := trim_last r
      cases e : trimL r with
      | nil =>
        rw [List.getLast?_singleton]
        intro z
        exact h ⟨e, Option.some.inj z⟩
      | cons y s =>
        rw [List.getLast?_cons_cons, ← e]
        exact ih
theorem lastOk_of {a : List Int} (h : a.getLast? ≠ some 0) : lastOk (a.map V.int) = true := by
  unfold lastOk
  rw [List.getLast?_map]
  cases e : a.getLast? with
  | none => rfl
  | some x =>
    show decide (x ≠ 0) = true
    exact decide_eq_true fun z => h (by rw [e, z])
theorem trim_ok {l : List Int} (h : (trimL l).length ≤ 13) (hb : ∀ n ∈ l, n.natAbs < 2 ^ 200) : RowOk (trimL l) := ⟨h, lastOk_of (trim_last l), fun n hn => hb n (trim_mem hn)⟩
def spNums (K : PySem.W.Frag) (f : List Int → List Int) : Sp := fun vs H Q _ => ∃ (v : V) (a : List Int), vs = [v] ∧ Tp K H v a ∧ a.length ≤ 13 ∧ (∀ n ∈ a, n.natAbs < 2 ^ 200) ∧ ∀ p H', Same H H' → Tp K H' p (f a) → Q p H'
def spRR (K : PySem.W.Frag) (f : List Int → List Int → List Int) : Sp := fun vs H Q _ => ∃ (v v' : V) (a b : List Int), vs = [v, v'] ∧ Tp K H v a ∧ Tp K H v' b ∧ RowOk a ∧ RowOk b ∧ ∀ p H', Same H H' → Tp K H' p (f a b) → Q p H'
def spRP (K : PySem.W.Frag) : Sp := fun vs H Q _ => ∃ (v v' : V) (a b : List Int), vs = [v, v'] ∧ Tp K H v a ∧ Tp K H v' b ∧ RowOk a ∧ RowOk b ∧ (∀ n ∈ a, n.natAbs < 2 ^ 64) ∧ RowOk (mulL a b) ∧ ∀ p H', Same H H' → Tp K H' p (mulL a b) → Q p H'
theorem b29 {n : Nat} (h : n < 2 ^ 200) : n < 2 ^ 9000 := Nat.lt_trans h (Nat.pow_lt_pow_right (by decide) (by decide))
section
variable {P : Program} {w : World} {K :
      PySem.W.Frag} {mg : Str → Option Value} {base : Heap}
abbrev p_n : List Str := ["numbers"]
abbrev n_rprod : List Str := ["row", "other", "found"]
end
end K5

namespace K5
open PySem L2 Ur
section
variable {P : Program} {w : World} {K :
      PySem.W.Frag} {mg : Str → Option Value} {base : Heap}
def spDraw : Sp := fun vs H Q _ => ∃ (u : Addr) (m : Int), vs = [.ref u, .int m] ∧ H u = some (PotO u) ∧ 0 < m ∧ m < 1073741824 ∧ ∀ (r : Int) (H' : Hp), 0 ≤ r → r < m → Same H H' → Q (.int r) H'
abbrev nDraw : List Str := ["_law_pot_here", "_law_many", "_law_digit", "_law_step"]
abbrev pDraw : List Str := ["_law_pot_here", "_law_many"]
theorem scDraw : FnScope nDraw pDraw (defScope sDraw) := ⟨rfl, rfl, rfl, by decide +kernel, rfl, by decide +kernel, by decide +kernel⟩
theorem ok_draw {f : Addr} {fd : FuncData} (F : Fun K "_law_draw" "_law_draw" sDraw f fd) (T : Bl mg) : FnOk P w K mg base CX0 1 f fd pDraw spDraw := by
  refine F.ok scDraw (fun vs H Q E h => ?_) (fun cdv A outer s H vs Q E hr h => ?_)
  · obtain ⟨u, m, rfl, _⟩ := h
    rfl
  · obtain ⟨u, m, rfl, hu, m0, m1, k⟩ := h
    refine ⟨_, pss_pot (pss_cons (ps_if (pt_cmpR op_gt (pe_ix (r := rIxL K) ix_list (pv 0) pe_int (fun _ _ => rfl)) pe_int (nomark _)) (pss_cons (ps_asg (pe_callB call_divmod (by rfl) T.divmod PyProof.Rows.boot_divmod (pa_cons (pe_ix (r := rIxL K) ix_list (pv 0) pe_int (fun _ _ => rfl)) (pa_cons (pv 1) pa_nil))) (pg_tup rfl (pgs_cons (pg_sub (pv 0) pe_int set_list (fun _ => rfl)) (pgs_cons (pg_name (i := 2) scDraw.nd rfl (Or.inl rfl)) pgs_nil))))
      (pss_one (ps_ret (pv 2)))) pss_nil)
      (pss_cons (ps_asg (pe_op op_add (pe_ix (r := rIxL K) ix_list (pv 0) pe_int (fun _ _ => rfl)) pe_int) (pg_sub (pv 0) pe_int set_list (fun _ => rfl)))
      (pss_cons (ps_set (i := 3) scDraw.nd rfl (Or.inl rfl) (pe_op op_add (pe_op op_mod (pe_callTy call_int1 (by rfl) T.int PyProof.Rows.boot_int (pa_cons (pe_ix (r := rIxL K) ix_list (pv 0) pe_int (fun _ _ => rfl)) pa_nil)) pe_int) pe_int))
      (pss_cons (ps_asg (pe_op op_mod (pe_callTy call_int1 (by rfl) T.int PyProof.Rows.boot_int (pa_cons (pe_op op_add (pe_op op_add (pe_op op_mul (pe_ix (r := rIxL K) ix_list (pv 0) pe_int (fun _ _ => rfl)) (pv 3)) (pe_op op_mul pe_int (pe_ix (r := rIxL K) ix_list (pv 0) pe_int (fun _ _ => rfl)))) pe_int) pa_nil)) pe_int) (pg_sub (pv 0) pe_int set_list (fun _ => rfl)))
      (pss_one (ps_ret (pe_op op_mod (pe_callTy call_int1 (by rfl) T.int PyProof.Rows.boot_int (pa_cons (pe_op op_fdiv (pe_ix (r := rIxL K) ix_list (pv 0) pe_int (fun _ _ => rfl)) pe_int) pa_nil)) (pv 1)))))))), ?_⟩
    refine ⟨u, hu, fun a b c B => ?_⟩
    have hq : ∀ (H' : Hp) (r : Int) (a' b' c' : Int), 0 ≤ r → r < m → Bp a' b' c' → (∀ x o, H x = some o → x ≠ u → H' x = some o) → H' u = some (.lst (nums a' b' c')) → ShutP u (Q (.int r)) H' := by
      intro H' r a' b' c' r0 r1 B' keep at'
      refine ⟨a', b', c', B', at', k r _ r0 r1 ?_⟩
      intro x o e
      by_cases z : x = u
      · subst z; rw [hu] at e; cases e; exact upd_same
      · rw [upd_ne z]; exact keep x o e z
    refine ⟨_, rfl, u, nums a b c, 0, _, rfl, rfl, SqL.of upd_same, rfl, _, _, rfl, rfl, _, rfl, ?_⟩
    refine ite2 (fun _
          => ?_) (fun _ => ?_)
    · refine ⟨_, rfl, u, nums a b c, 0, _, rfl, rfl, SqL.of upd_same, rfl, _, rfl, a, m, rfl, ⟨m0, m1⟩, fun p hp => ?_⟩
      have npu : p ≠ u := fun z => by rw [z, upd_same] at hp; cases hp
      have npu2 : u ≠ p := fun z => npu z.symm
      refine ⟨p, _, rfl, SqT.of upd_same, rfl, _, _, rfl, ?_⟩
      refine ⟨_, rfl, u, nums a b c, 0, 0, rfl, rfl, by rw [upd_ne npu2, upd_same], rfl, ?_⟩
      refine ⟨_, _, rfl, rfl, ?_⟩
      refine ⟨_, rfl, ?_⟩
      refine hq _ (a % m) (a / m) b c (Int.emod_nonneg _ (by omega)) (Int.emod_lt_of_pos _ m0) ⟨Int.ediv_nonneg B.a0 (by omega), B.b0, B.b1, B.c0⟩ (fun x o e z => ?_) upd_same
      rw [upd_ne z, upd_ne (ne_of_none (upd_ne z ▸ e : (upd H u _) x = some o) hp), upd_ne z]
      exact e
    · have b2 := B.b1
      have b3 := B.b0
      have c3 := B.c0
      refine ⟨_, rfl, u, nums a b c, 2, _, rfl, rfl, SqL.of upd_same, rfl, _, _, rfl, rfl, ?_⟩
      refine ⟨_, rfl, u, nums a b c, 2, 2, rfl, rfl, upd_same, rfl, ?_⟩
      rw [upd_upd]
      refine ⟨_, rfl, u, nums a b (c + 1), 1, _, rfl, rfl, SqL.of upd_same, rfl, Or.inl ⟨_, rfl, _, _, rfl, rfl, (by show (0 : Int) < 25013; decide), _, _, rfl, rfl, ?_⟩⟩
      have st0 : 0 ≤ b % 25013 := Int.emod_nonneg _ (by decide)
      have st1 : b % 25013 < 25013 := Int.emod_lt_of_pos _ (by decide)
      refine ⟨_, rfl, u, nums a b (c + 1), 1, _, rfl, rfl, SqL.of upd_same, rfl, _, rfl, _, _, rfl, rfl, Or.inl ⟨by omega, by omega⟩, _, rfl, u, nums a b (c + 1), 2, _, rfl, rfl, SqL.of upd_same, rfl, _, _, rfl, rfl, Or.inl ⟨by decide, by decide⟩, _, _, rfl, rfl, _, _, rfl, rfl, Or.inl ⟨_, rfl, _, _, rfl, rfl, (by show (0 : Int) < 2147483587; decide), ?_⟩⟩
      refine ⟨_, rfl, u, nums a b (c + 1), 1, 1, rfl, rfl, upd_same, rfl, ?_⟩
      rw [upd_upd]
      obtain ⟨b', hb'⟩ : ∃ b', b' = (b * (b % 25013 + 17011) + 80021 * (c + 1) + 9) % 2147483587 := ⟨_, rfl⟩
      have b4 : 0 ≤ b' ∧ b' < 2147483587 := ⟨hb' ▸ Int.emod_nonneg _ (by decide), hb' ▸ Int.emod_lt_of_pos _ (by decide)⟩
      generalize hH : upd H u _ = H2
      have hu2 : H2 u = some (.lst (nums a b' (c + 1))) := by
        rw [← hH, upd_same, hb']
        rfl
      have kp2 : ∀ x o, H x = some o → x ≠ u → H2 x = some o := fun x o e z => by
        rw [← hH, upd_ne z]
        exact e
      refine ⟨_, rfl, u, nums a b' (c + 1), 1, _, rfl, rfl, SqL.of hu2, rfl, _, _, rfl, rfl, ⟨by decide, by decide⟩, Or.inl ⟨_, rfl, _, rfl, _, _, rfl, rfl, m0, ?_⟩⟩
      exact hq _ _ a b' (c + 1) (Int.emod_nonneg _ (by omega)) (Int.emod_lt_of_pos _ m0) ⟨B.a0, b4.1, by omega, by omega⟩ kp2 hu2
end
end K5

namespace K5
open PySem L2 Ur
section
variable {P : Program} {w : World} {K :
      PySem.W.Frag} {mg : Str → Option Value} {base : Heap}
abbrev p_of : List Str := ["_law_pot_here", "_law_some"]
theorem sc_of : FnScope p_of p_of (defScope sOf) := ⟨rfl, rfl, rfl, by decide +kernel, rfl, by decide +kernel, by decide +kernel⟩
def spOf : Sp := fun vs H Q _ => ∃ (u l : Addr) (xs : List V), vs = [.ref u, .ref l] ∧ H u = some (PotO u) ∧ H l = some (.lst xs) ∧ 0 < xs.length ∧ xs.length ≤ 1000 ∧ ∀ (x : V) (H' : Hp), x ∈ xs → Same H H' → Q x H'
theorem ok_of {f : Addr} {fd : FuncData} (F : Fun K "_law_of" "_law_of" sOf f fd) (T : Bl mg) (H_law_draw : Has P w K mg base "_law_draw" pDraw 1 spDraw) : FnOk P w K mg base CX0 2 f fd p_of spOf := by
  refine F.ok sc_of (fun vs H Q E h => ?_) (fun cdv A outer s H vs Q E hr h => ?_)
  · obtain ⟨u, l, xs, rfl, _⟩ := h
    rfl
  · obtain ⟨u, l, xs, rfl, hu, hl, h0, h1, q⟩ := h
    refine ⟨_, (pss_one (ps_ret (pe_ix (r := rIxL K) ix_list (pv 1) (pe_has H_law_draw (hr.mono (by decide)) (by rfl) (pa_cons (pv 0) (pa_cons (pe_callB (r := rLen K) len_seq (by rfl) T.len PySem.boot_len (pa_cons (pv 1) pa_nil)) pa_nil))) (fun _ _ => rfl)))), ?_⟩
    refine ⟨_, rfl, _, rfl, _, rfl, l, xs, rfl, Or.inl (SqL.of hl), u, _, rfl, hu, by omega, by omega, fun r H1 r0 r1 s1 => ?_⟩
    obtain ⟨j, rfl⟩ := Int.eq_ofNat_of_zero_le r0
    have hj : j < xs.length := by omega
    exact ⟨l, xs, _, _, rfl, rfl, SqL.of (s1 _ _ hl), atI_nat (List.getElem?_eq_getElem hj), q _ H1 (List.getElem_mem hj) s1⟩
abbrev p_from : List Str := ["_law_pot_here", "_law_low", "_law_high"]
theorem sc_from : FnScope p_from p_from (defScope sFrom) := ⟨rfl, rfl, rfl, by decide +kernel, rfl, by decide +kernel, by decide +kernel⟩
def spFrom : Sp := fun vs H Q _ => ∃ (u : Addr) (lo hi : Int), vs = [.ref u, .int lo, .int hi] ∧ H u = some (PotO u) ∧ lo ≤ hi ∧ -1000 ≤ lo ∧ hi ≤ 1000 ∧ ∀ (r : Int) (H' : Hp), lo ≤ r → r ≤ hi → Same H H' → Q (.int r) H'
theorem ok_from {f : Addr} {fd : FuncData} (F : Fun K "_law_from" "_law_from" sFrom f fd) (H_law_draw : Has P w K mg base "_law_draw" pDraw 1 spDraw) : FnOk P w K mg base CX0 2 f fd p_from spFrom := by
  refine F.ok sc_from (fun vs H Q E h => ?_) (fun cdv A outer s H vs Q E hr h => ?_)
  · obtain ⟨u, _, _, rfl, _⟩ := h
    rfl
  · obtain ⟨u, lo, hi, rfl, hu, h0, h1, h2, q⟩ := h
    refine ⟨_, (pss_one (ps_ret (pe_op op_add (pv 1) (pe_has H_law_draw (hr.mono (by decide)) (by rfl) (pa_cons (pv 0) (pa_cons (pe_op op_add (pe_op op_sub (pv 2) (pv 1)) pe_int) pa_nil)))))), ?_⟩
    refine ⟨_, rfl, _, rfl, _, rfl, _, rfl, _, _, rfl, rfl, _, _, rfl, rfl, u, _, rfl, hu, by omega, by omega, fun r H1 r0 r1 s1 => ?_⟩
    exact ⟨_, _, rfl, rfl, q _ H1 (by omega) (by omega) s1⟩
/-! ### the common divisor -/
abbrev n_lcom : List Str := ["_law_some", "_law_found", "_law_each", "_law_rest"]
abbrev p_lcom : List Str := ["_law_some"]
theorem sc_lcom : FnScope n_lcom p_lcom (defScope sLCom) := ⟨rfl, rfl, rfl, by decide +kernel, rfl, by decide +kernel, by decide +kernel⟩
def spLCom (K : PySem.W.Frag) : Sp := fun vs H Q _ => ∃ (a : Addr) (ns : List Int), vs = [.ref a] ∧ (SqL K H a (ns.map V.int) ∨ SqT K H a (ns.map V.int)) ∧ Q (.int (gAll ns : Nat)) H
theorem ok_lcom {f : Addr} {fd : FuncData} (F : Fun K "_law_common" "_law_common" sLCom f fd) (T : Bl mg) : FnOk P w K mg base CX0 1 f fd p_lcom (spLCom K) := by
  refine F.ok sc_lcom (fun vs H Q E h => ?_) (fun cdv A outer s H vs Q E hr h => ?_)
  · obtain ⟨_, _, rfl, _⟩ := h
    rfl
  · obtain ⟨a, ns, rfl, hS | hS, q⟩ := h
    · refine ⟨_, (pss_cons (ps_set (i := 1) sc_lcom.nd rfl (Or.inl rfl) pe_int)
      (pss_cons (ps_for PassesOwn.never rfl (pi_list (pv 0)) (pg_name (i := 2) sc_lcom.nd rfl (Or.inl rfl)) (pss_cons (ps_set (i := 3) sc_lcom.nd rfl (Or.inl rfl) (pe_callB call_abs (by rfl) T.abs PyProof.Rows.boot_abs (pa_cons (pv 2) pa_nil)))
      (pss_one (ps_while PassesOwn.never (pt_cmpR op_gt (pv 3) pe_int (nomark _)) (pss_one (ps_par (i := 1) (j := 3) rfl sc_lcom.nd rfl rfl (by decide) rfl rfl (pa_cons (pv 3) (pa_cons (pe_op op_mod (pe_callTy call_int1 (by rfl) T.int PyProof.Rows.boot_int (pa_cons (pv 1) pa_nil)) (pv 3)) pa_nil)) (by rfl)))))))
      (pss_one (ps_ret (pv 1))))), ?_⟩
      refine ⟨_, rfl, a, rfl, ⟨_, hS⟩, for_list (K := K) (a := a) (xs := ns.map V.int) (fun i σ H' => ∃ x y : Option V, σ = [some (.ref a), some (.int (gAll (ns.take i) : Nat)), x, y] ∧ H' = H) ⟨none, none, rfl, rfl⟩ (fun i σ H' _ h => by obtain ⟨_, _, _, e⟩ := h; exact e ▸ hS) ?_ ?_⟩
      · rintro i y σ H' hi ⟨x, t, rfl, rfl⟩
        obtain ⟨z, hz, rfl⟩ := map_at hi
        refine ⟨_, rfl, _, rfl, ?_⟩
        rw [abs_nat]
        refine ⟨fun m σ H'' => ∃ x y : Nat, m = y ∧ σ = [some (.ref a), some (.int (x : Nat)), some (.int z), some (.int (y : Nat))] ∧ Nat.gcd x y = gAll (ns.take (i + 1)) ∧ H'' = H', ⟨z.natAbs, gAll (ns.take i), z.natAbs, rfl, rfl, (gAll_next hz).symm, rfl⟩, ?_⟩
        rintro y σ H'' ⟨x, _, rfl, rfl, hg, rfl⟩
        refine ⟨_, rfl, _, _,
              rfl, rfl, _, rfl, ?_⟩
        refine ite2 (fun c
              => ?_) (fun c => ?_)
        · have hy : 0 < y := by have := of_decide_eq_true c; omega
          refine ⟨fun σ' H3 => ∃ x' y' : Nat, y' < y ∧ σ' = [some (.ref a), some (.int (x' : Nat)), some (.int z), some (.int (y' : Nat))] ∧ Nat.gcd x' y' = gAll (ns.take (i + 1)) ∧ H3 = H'', fun σ' H3 h => ?_, ?_⟩
          · obtain ⟨x', y', h1, h2, h3, h4⟩ := h
            exact ⟨y', h1, x', y', rfl, h2, h3, h4⟩
          · refine ⟨_, rfl, _, rfl, Or.inl ⟨_, rfl, _, rfl, _, _, rfl, rfl, (by show (0 : Int) < (y : Int); omega), _, _, rfl, ?_⟩⟩
            refine ⟨y, x % y, Nat.mod_lt _ hy, ?_, ?_, rfl⟩
            · rw [Int.natCast_emod]
              rfl
            · rw [← hg, Nat.gcd_comm x y]
              exact (Nat.gcd_rec y x).symm ▸ Nat.gcd_comm _ _
        · have hy : y = 0 := Nat.eq_zero_of_not_pos fun z => c (decide_eq_true (by omega))
          subst hy
          rw [Nat.gcd_zero_right] at hg
          subst hg
          exact ⟨_, _, rfl, rfl⟩
      · rintro σ H' ⟨x, t, rfl, rfl⟩
        rw [List.length_map,
              List.take_length]
        exact ⟨_, rfl, q⟩
    · refine ⟨_, (pss_cons (ps_set (i := 1) sc_lcom.nd rfl (Or.inl rfl) pe_int)
      (pss_cons (ps_for PassesOwn.never rfl (pi_tup (pv 0)) (pg_name (i := 2) sc_lcom.nd rfl (Or.inl rfl)) (pss_cons (ps_set (i := 3) sc_lcom.nd rfl (Or.inl rfl) (pe_callB call_abs (by rfl) T.abs PyProof.Rows.boot_abs (pa_cons (pv 2) pa_nil)))
      (pss_one (ps_while PassesOwn.never (pt_cmpR op_gt (pv 3) pe_int (nomark _)) (pss_one (ps_par (i := 1) (j := 3) rfl sc_lcom.nd rfl rfl (by decide) rfl rfl (pa_cons (pv 3) (pa_cons (pe_op op_mod (pe_callTy call_int1 (by rfl) T.int PyProof.Rows.boot_int (pa_cons (pv 1) pa_nil)) (pv 3)) pa_nil)) (by rfl)))))))
      (pss_one (ps_ret (pv 1))))), ?_⟩
      refine ⟨_, rfl, a, rfl, ⟨_, hS⟩, for_tup (K := K) (a := a) (xs := ns.map V.int) (fun i σ H' => ∃ x y : Option V, σ = [some (.ref a), some (.int (gAll (ns.take i) : Nat)), x, y] ∧ H' = H) ⟨none, none, rfl, rfl⟩ (fun i σ H' _ h => by obtain ⟨_, _, _, e⟩ := h; exact e ▸ hS) ?_ ?_⟩
      · rintro i y σ H' hi ⟨x, t, rfl, rfl⟩
        obtain ⟨z, hz, rfl⟩ := map_at hi
        refine ⟨_, rfl, _, rfl, ?_⟩
        rw [abs_nat]
        refine ⟨fun m σ H'' => ∃ x y : Nat, m = y ∧ σ = [some (.ref a), some (.int (x : Nat)), some (.int z), some (.int (y : Nat))] ∧ Nat.gcd x y = gAll (ns.take (i + 1)) ∧ H'' = H', ⟨z.natAbs, gAll (ns.take i), z.natAbs, rfl, rfl, (gAll_next hz).symm, rfl⟩, ?_⟩
        rintro y σ H'' ⟨x, _, rfl, rfl, hg, rfl⟩
        refine ⟨_, rfl, _, _,
              rfl, rfl, _, rfl, ?_⟩
        refine ite2 (fun c
              => ?_) (fun c => ?_)
        · have hy : 0 < y := by have := of_decide_eq_true c; omega
          refine ⟨fun σ' H3 => ∃ x' y' : Nat, y' < y ∧ σ' = [some (.ref a), some (.int (x' : Nat)), some (.int z), some (.int (y' : Nat))] ∧ Nat.gcd x' y' = gAll (ns.take (i + 1)) ∧ H3 = H'', fun σ' H3 h => ?_, ?_⟩
          · obtain ⟨x', y', h1, h2, h3, h4⟩ := h
            exact ⟨y', h1, x', y', rfl, h2, h3, h4⟩
          · refine ⟨_, rfl, _, rfl, Or.inl ⟨_, rfl, _, rfl, _, _, rfl, rfl, (by show (0 : Int) < (y : Int); omega), _, _, rfl, ?_⟩⟩
            refine ⟨y, x % y, Nat.mod_lt _ hy, ?_, ?_, rfl⟩
            · rw [Int.natCast_emod]
              rfl
            · rw [← hg, Nat.gcd_comm x y]
              exact (Nat.gcd_rec y x).symm ▸ Nat.gcd_comm _ _
        · have hy : y = 0 := Nat.eq_zero_of_not_pos fun z => c (decide_eq_true (by omega))
          subst hy
          rw [Nat.gcd_zero_right] at hg
          subst hg
          exact ⟨_, _, rfl, rfl⟩
      · rintro σ H' ⟨x, t, rfl, rfl⟩
        rw [List.length_map,
              List.take_length]
        exact ⟨_, rfl, q⟩
end
end K5

namespace Ur
open PySem L2 PyProof.Rows
/-! ### t[::-1], t a tuple -/
theorem fm_all {α β : Type} {f : α → Option β} {g : α → β} : ∀ {l : List α}, (∀ m ∈ l, f m = some (g m)) → l.filterMap f = l.map g
  | [], _ => rfl
  | a :: r, h => by
    rw [List.filterMap_cons, h a List.mem_cons_self, List.map_cons, fm_all fun m hm => h m (List.mem_cons_of_mem _ hm)]
theorem back_pick (xs : Array Value) : ((List.range xs.size).filterMap fun (m : Nat) => xs[(((xs.size : Int) - 1) + (m : Int) * (-1)).toNat]?) = xs.toList.reverse := by
  have e : ((List.range xs.size).filterMap fun (m : Nat) => xs[(((xs.size : Int) - 1) + (m : Int) * (-1)).toNat]?) = (List.range xs.size).filterMap fun m => xs[xs.size - 1 - m]? := by
    congr 1
    funext m
    by_cases h : m ≤ xs.size - 1
    · by_cases h0 : xs.size = 0
      · rw [Array.getElem?_eq_none (by omega), Array.getElem?_eq_none (by omega)]
      · rw [show (((xs.size : Int) - 1) + (m : Int) * (-1)).toNat = xs.size - 1 - m by omega]
    · rw [show (((xs.size : Int) - 1) + (m : Int) * (-1)).toNat = xs.size - 1 - m by omega]
  rw [e]
  have e3 : (List.range xs.size).filterMap (fun m => xs[xs.size - 1 - m]?) = (List.range xs.size).map (fun m => xs.toList.getD (xs.size - 1 - m) .none) := by
    refine fm_all fun m hm => ?_
    have : m < xs.size := List.mem_range.mp hm
    rw [List.getD_eq_getElem?_getD, Array.getElem?_toList, Array.getElem?_eq_getElem (by omega)]
    rfl
  rw [e3]
  apply List.ext_getElem?
  intro i
  rw [List.getElem?_map]
  by_cases h : i < xs.size
  · rw [List.getElem?_range h, List.getElem?_reverse (by simpa using h)]
    rw [Option.map_some, List.getD_eq_getElem?_getD, Array.length_toList, List.getElem?_eq_getElem (by rw [Array.length_toList]; omega)]
    rfl
  · rw [List.getElem?_eq_none (by rw [List.length_range]; omega), List.getElem?_eq_none (by rw [List.length_reverse, Array.length_toList]; omega)]
    rfl
section
variable {prog : Program} {w : World} {A :
      Around} {E : Value → Shared → Prop} {s : Shared}
theorem applied_back {sl : Addr} {t1 : Tok} {n : Nat} {Q : Int × Int × Nat → Shared → Prop} (hs : s.heap.IsSliceOf sl .none .none (.int (-1) t1))
    (h : Q ((n : Int) - 1, -1, n) s) : wpAny (model prog w) A (Builtin.Slice.sliceApplied (.ref sl) (pure (n : Int))) Q E s := by
  obtain ⟨os, hoz, hcz, hdz⟩ := id hs
  unfold Builtin.Slice.sliceApplied
        Builtin.Slice.sliceFields
  refine wpAny_bind (wpAny_bind (wpAny_field hoz hdz (x := .none) rfl (wpAny_bind (wpAny_field hoz hdz (x := .none) rfl (wpAny_bind (wpAny_field hoz hdz (x := .int (-1) t1) rfl (wpAny_pure ?_)))))))
  refine wpAny_bind (slicePart_int ?_)
  show wpAny _ _ (if ((-1 : Int) == 0) = true then _ else _) _ _ s
  rw [if_neg (by decide)]
  refine wpAny_bind (slicePart_none (wpAny_bind (slicePart_none (wpAny_bind (wpAny_pure ?_)))))
  show wpAny _ _ (match Builtin.Slice.sliceAdjust none none (-1) (n : Int) with | (lo, hi) => pure (lo, (-1 : Int), Builtin.Slice.slicePlaces lo hi (-1))) _ _ s
  have e : Builtin.Slice.sliceAdjust none none (-1) (n : Int) = ((n : Int) - 1, -1) := rfl
  rw [e]
  have e2 : Builtin.Slice.slicePlaces ((n : Int) - 1) (-1) (-1) = n := by
    delta Builtin.Slice.slicePlaces
    rw [if_neg (by decide)]
    split
    · rw [show (-(-1 : Int)) = 1 from rfl, Int.ediv_one]
      omega
    · omega
  show wpAny _ _ (pure (((n : Int) - 1), (-1 : Int), Builtin.Slice.slicePlaces ((n : Int) - 1) (-1) (-1))) _ _ s
  rw [e2]
  exact wpAny_pure h
theorem item_back {t sl : Addr} {items : Array Value} {t1 : Tok} {Q : Value → Shared → Prop} (ht : IsTup s.heap t items) (hs : s.heap.IsSliceOf sl .none .none (.int (-1) t1))
    (h : Q (.ref s.heap.objs.size) { s with heap := s.heap.push { cls := .type "tuple", data := .seq items.toList.reverse.toArray } }) (hsz : items.size ≤ sizeLine) : wpAny (model prog w) A (getItem (.ref t) (.ref sl)) Q E s := by
  have hbig : sizeOk (.seq items.toList.reverse.toArray) := by
    show items.toList.reverse.toArray.size ≤ sizeLine
    rw [List.size_toArray, List.length_reverse, Array.length_toList]
    exact hsz
  obtain ⟨os, hoz, hcz, hdz⟩ := id hs
  have hTz : s.TypeIs (.ref sl) "slice" := ⟨os, hoz, hcz⟩
  unfold getItem
  try with_reducible
        refine wpAny_holding ?_
  first | (refine wpAny_bind (wpAny_pure ?_)) | skip
  refine wpAny_bind (wpAny_sequenceKey
        ht.typeIs (by decide) ?_)
  refine wpAny_bind (wpAny_callSpecial?_slot (name := Str.ofString
        "__getitem__") ht.typeIs PyProof.Rows.slot_tuple_getitem
    (wpAny_call_entry PyProof.Rows.slot_tuple_getitem
          ht.typeIs entry_tuple_getitem ?_ (args_tuple_getitem _ _)))
  show wpAny _ _ (Builtin.Tuple.tupleItemsOf
        (.ref t) >>= _) _ _ s
  refine wpAny_bind
        (tupleItemsOf_ ht ?_)
  refine wpAny_bind (wpAny_typeOf hTz ?_)
  rw [if_pos (by decide)]
  refine wpAny_bind (applied_back (t1 := t1) hs ?_)
  have hno : ¬ ((((items.size : Int) - 1) == 0 && (-1 : Int) == 1 && items.size == items.size) = true) := by
    intro q
    rw [Bool.and_eq_true,
          Bool.and_eq_true] at q
    exact absurd q.1.2 (by decide)
  show wpAny _ _ (if (((items.size : Int) - 1) == 0 && (-1 : Int) == 1 && items.size == items.size) = true then _ else _) _ _ s
  rw [if_neg hno, back_pick]
  first
    | exact wpAny_bind (m := Builtin.Tuple.tupleExact _) (wpAny_newObj_type (wpAny_pure ⟨_, rfl, wpAny_pure h⟩) hbig)
    | exact wpAny_bind (m := Builtin.Tuple.tupleExact _) (wpAny_newObj_type (wpAny_bind (wpAny_pure (wpAny_pure ⟨_, rfl, wpAny_pure h⟩))) hbig)
    | exact wpAny_bind (wpAny_bind (m := Builtin.Tuple.tupleExact _) (wpAny_newObj_type (wpAny_pure (wpAny_pure ⟨_, rfl, wpAny_pure h⟩)) hbig))
    | exact wpAny_bind (wpAny_bind (m := Builtin.Tuple.tupleExact _) (wpAny_newObj_type (wpAny_pure ⟨_, rfl, wpAny_pure h⟩) hbig))
end
section
variable {X : Cx}
def tRevT (K : PySem.W.Frag) (te : TE) : TE := fun σ H Q => te σ H fun x H1 => ∃ a xs, x = .ref a ∧ SqT K H1 a xs ∧ ∀ p, H1 p = none → Q (.ref p) (upd H1 p (.tup xs.reverse))
theorem pe_revT {e : Expr} {te : TE} {k : Nat} {p1 p2 p3 pos : Pos} (he : PE X e te) : PE X (.Subscript e (.Slice none none (some (.UnaryOp .USub (.Constant (.int 1) k p1) p2)) p3) pos) (tRevT X.K te) := by
  refine ⟨fun pins
        s σ H Q I h => ?_⟩
  refine Subscript_ (thn (he.run pins s σ H
        _ I h) fun v s1 ⟨x, H1, I1, r1, q1⟩ => ?_)
  obtain ⟨a, xs,
        ex, hx, q⟩ := q1
  subst ex
  cases r1
  have hsz0 : PO X (some (.UnaryOp .USub (.Constant (.int 1) k p1) p2)) (tPart (tUn (rU fun i => .int (-i)) (tC (.int 1)))) := po_some (pe_un un_neg pe_int)
  refine wpAny_Slice (thn (po_none.run pins s1 σ H1 (fun o H2 => o = none ∧ H2 = H1) I1 ⟨rfl, rfl⟩) fun vl s2 ⟨l, H2, IR, pl, el, e2⟩ => ?_)
  subst el e2
  refine thn (po_none.run pins s2 σ H2 (fun o H3 => o = none ∧ H3 = H2) IR ⟨rfl, rfl⟩) fun vu s3 ⟨u, H3, IT, pu, eu, e3⟩ => ?_
  subst eu e3
  refine thn (hsz0.run pins s3 σ H3 (fun o H4 => o = some (-1) ∧ H4 = H3) IT ⟨1, rfl, -1, rfl, rfl, rfl⟩) fun vs s4 ⟨o, H4, IU, ps, eo, e4⟩ => ?_
  subst eo e4
  have IV : Inv X pins σ H4 { s4 with heap := s4.heap.push { cls := .type "slice", data := .fields #[vl, vu, vs] } } := IU.kept (t' := s4.toks) fun b ob q => Heap.get?_push_of_some _ q
  obtain ⟨its, r, ht, hz⟩ := IV.tuple hx
  have hlen := r.length
  show wpAny (model X.prog X.w) X.A (subscriptTail e (.Slice none none (some (.UnaryOp .USub (.Constant (.int 1) k p1) p2)) p3) (.ref a)
        (.ref s4.heap.objs.size)) (EP X pins σ Q) X.xe { s4 with heap := s4.heap.push { cls := .type "slice", data := .fields #[vl, vu, vs] } }
  refine tail_any (ops := [.ref a, .ref s4.heap.objs.size]) ht.typeIs (PyProof.Rows.slot_tuple_getitem.lookup) ?_ (by with_unfolding_all rfl)
  cases pl
  cases pu
  cases ps with
  | int i t1 =>
    refine item_back (t1 := t1) ht (Heap.IsSliceOf.new ..) ?_ (by rw [List.size_toArray]; omega)
    refine ⟨.ref _, _, IV.laid (t' := s4.toks) (o := .tup xs.reverse) (fun b ob q => Heap.get?_push_of_some _ q) (Nat.le_refl _) ?_, rfl, q _ (IV.hok.fresh (Nat.le_refl _))⟩
    exact ⟨by rw [List.length_reverse]; exact hz, _, r.reverse, IsTup.new _ _⟩
end
end Ur

namespace K5
open PySem L2 Ur
theorem p400 {x : Int} (h : x.natAbs ≤ 2 ^ 400) : x.natAbs < 2 ^ 401 := Nat.lt_of_le_of_lt h (Nat.pow_lt_pow_right (by decide) (by decide))
theorem mul800 {x y : Int} (hx : x.natAbs ≤ 2 ^ 400) (hy : y.natAbs ≤ 2 ^ 400) : (x * y).natAbs ≤ 2 ^ 800 := by
  rw [Int.natAbs_mul]
  have := Nat.mul_le_mul hx hy
  rwa [← Nat.pow_add] at this
theorem to1000 {n : Nat} (h : n ≤ 2 ^ 800 + 2 ^ 800) : n ≤ 2 ^ 1000 := by
  refine Nat.le_trans h ?_
  have e : 2 ^ 800 + 2 ^ 800 = 2 ^ 801 := by rw [← Nat.two_mul, Nat.mul_comm, ← Nat.pow_succ]
  rw [e]
  exact Nat.pow_le_pow_right (by decide) (by decide)
section
variable {P : Program} {w : World} {K :
      PySem.W.Frag} {mg : Str → Option Value} {base : Heap}
abbrev n_lpart : List Str := ["_law_top", "_law_low", "_law_by"]
abbrev p_lpart : List Str := ["_law_top", "_law_low"]
def plusL : List Int → List Int → List Int
  | [x, w], [u, z] => thin [x * z + u * w, w * z]
  | _, _ => []
def timesL : List Int → List Int → List Int
  | [x, w], [u, z] => thin [x * u, w * z]
  | _, _ => []
def spFF (K : PySem.W.Frag) (f : List Int → List Int → List Int) : Sp := fun vs H Q _ => ∃ (v v' : V) (x w u z : Int), vs = [v, v'] ∧ Tp K H v [x, w] ∧ Tp K H v' [u, z] ∧ 0 < w ∧ 0 < z ∧ x.natAbs ≤ 2 ^ 400 ∧ w.natAbs ≤ 2 ^ 400 ∧ u.natAbs ≤ 2 ^ 400 ∧ z.natAbs ≤ 2 ^ 400 ∧ ∀ p H', Same H H' → Tp K H' p (f [x, w] [u, z]) → Q p H'
abbrev p_lot : List Str := ["_law_one", "_law_two"]
end
end K5

namespace K5
open PySem L2 Ur
theorem thin_scale {k x w : Int} (hk : 0 < k) (hw : 0 < w) : thin [k * x, k * w] = thin [x, w] := by
  have h1 := g2_pos (x := x) hw
  have h2 := g2_pos (x := k * x) (Int.mul_pos hk hw)
  rw [thin_eq h1, thin_eq h2]
  have e : ((gAll [k * x, k * w] : Nat) : Int) = k * ((gAll [x, w] : Nat) : Int) := by
    rw [gAll_2, gAll_2, Int.natAbs_mul, Int.natAbs_mul, Nat.gcd_mul_left, Int.natCast_mul, Int.natAbs_of_nonneg (Int.le_of_lt hk)]
  rw [e]
  show [k * x / _, k * w / _] = [x / _, w / _]
  rw [Int.mul_ediv_mul_of_pos _ _ hk, Int.mul_ediv_mul_of_pos _ _ hk]
theorem worth_low {n m : Int} {a : List Int} (hm : 0 < m) : thin [Hh n m a * m, m ^ a.length] = worthL n m a := by
  unfold worthL
  cases a with
  | nil =>
    show thin [0 * m, m ^ 0] = thin [0, m ^ 0]
    rw [Int.zero_mul]
  | cons c r =>
    show thin [Hh n m (c :: r) * m, m ^ (r.length + 1)] = thin [Hh n m (c :: r), m ^ r.length]
    rw [Int.mul_comm, Int.pow_succ, Int.mul_comm (m ^ r.length)]
    exact thin_scale hm (pow_pos9 hm _)
section
variable {P : Program} {w : World} {K :
      PySem.W.Frag} {mg : Str → Option Value} {base : Heap}
abbrev n_ltrim : List Str := ["_law_some", "_law_many"]
abbrev p_some : List Str := ["_law_some"]
theorem sc_ltrim : FnScope n_ltrim p_some (defScope sLTrim) := ⟨rfl, rfl, rfl, by decide +kernel, rfl, by decide +kernel, by decide +kernel⟩
def spLTrim (K : PySem.W.Frag) : Sp := fun vs H Q _ => ∃ (a : Addr) (ns : List Int), vs = [.ref a] ∧ SqL K H a (ns.map V.int) ∧ ns.length ≤ 1000 ∧ ∀ p H', Same H H' → Tp K H' p (trimL ns) → Q p H'
theorem ok_ltrim {f : Addr} {fd : FuncData} (F : Fun K "_law_trim" "_law_trim" sLTrim f fd) (T : Bl mg) : FnOk P w K mg base CX0 1 f fd p_some (spLTrim K) := by
  refine F.ok sc_ltrim (fun vs H Q E h => ?_) (fun cdv A outer s H vs Q E hr h => ?_)
  · obtain ⟨_, _, rfl, _⟩ := h
    rfl
  · obtain ⟨a, ns, rfl, hS, hl, q⟩ := h
    refine ⟨_, (pss_cons (ps_set (i := 1) sc_ltrim.nd rfl (Or.inl rfl) (pe_callB (r := rLen K) len_seq (by rfl) T.len PySem.boot_len (pa_cons (pv 0) pa_nil)))
      (pss_cons (ps_while PassesOwn.never ((pw_and (pt_cmpR op_gt (pv 1) pe_int (nomark _)) (pw_and1 (pt_cmpR op_eq (pe_ix (r := rIxL K) ix_list (pv 0) (pe_op op_sub (pv 1) pe_int) (fun _ _ => rfl)) pe_int (nomark _))))).pt (pss_one (ps_set (i := 1) sc_ltrim.nd rfl (Or.inl rfl) (pe_op op_sub (pv 1) pe_int))))
      (pss_one (ps_ret (pe_callTy call_tuple_of (by rfl) T.tuple PyProof.Rows.boot_tuple (pa_cons (pe_slice sl_list (pv 0) po_none (po_some (pv 1))) pa_nil)))))), ?_⟩
    show _
    refine ⟨_, rfl, a, _, rfl, Or.inl hS, ?_⟩
    refine ⟨fun m σ H' => Left ns a m σ ∧ H' = H, ⟨ns.length, ⟨Nat.le_refl _, by rw [List.length_map]; rfl, by rw [List.take_length]⟩, rfl⟩, ?_⟩
    rintro m σ H' ⟨⟨hm, rfl, e⟩, rfl⟩
    refine ⟨_, rfl, _, _,
          rfl, rfl, _, rfl, ?_⟩
    refine ite2 (fun c
          => ?_) (fun c => ?_)
    · obtain ⟨j, rfl⟩ : ∃ j, m = j + 1 := ⟨m - 1, by have := of_decide_eq_true c; omega⟩
      have hj : j < ns.length := by omega
      refine ⟨_, rfl, _, rfl, _, _, rfl, rfl, a, _, _, V.int ns[j], rfl, rfl, hS, ?_, rfl, _, rfl, ?_⟩
      · rw [show (((j + 1 : Nat) : Int) - 1) = ((j : Nat) : Int) by omega]
        exact atI_nat (by simp [hj])
      · refine ite2 (fun d => ?_) (fun d => ?_)
        · have z : ns[j] = 0 := V.int.inj (of_decide_eq_true d)
          refine ⟨fun σ' H'' => Left ns a j σ' ∧ H'' = H', fun σ' H'' h => ⟨j, Nat.lt_succ_self j, h⟩, ⟨_, rfl, _, _, rfl, rfl, ⟨⟨by omega, ?_, left_step (by simp [hj, z]) e⟩, rfl⟩⟩⟩
          show [some (V.ref a), some (V.int (((j + 1 : Nat) : Int) - 1))] = _
          rw [show (((j + 1 : Nat) : Int) - 1) = ((j : Nat) : Int) by omega]
        · have z : ns[j] ≠ 0 := fun y => d (decide_eq_true (by rw [y]))
          have hend := left_end (by simp [hj]) z e
          refine ⟨_, rfl, _, rfl, ((j + 1 : Nat) : Int), rfl, a, _, rfl, hS, fun p hp => ⟨p, _, rfl, Or.inl ⟨SqL.of upd_same, fun l hl2 => ?_⟩⟩⟩
          refine q _ _ ((same_new hp).trans (same_new hl2)) ⟨l, rfl, ?_⟩
          rw [cut_to, hend]
          exact SqT.of upd_same
    · have z : m = 0 := Nat.eq_zero_of_not_pos fun y => c (decide_eq_true (by omega))
      subst z
      have hend : ns.take 0 = trimL ns := e
      refine ⟨_, rfl, _, rfl, ((0 : Nat) : Int), rfl, a, _, rfl, hS, fun p hp => ⟨p, _, rfl, Or.inl ⟨SqL.of upd_same, fun l hl2 => ?_⟩⟩⟩
      refine q _ _ ((same_new hp).trans (same_new hl2)) ⟨l, rfl, ?_⟩
      rw [cut_to, hend]
      exact SqT.of upd_same

/-! ### worths -/
abbrev n_lworth : List Str := ["_law_row_here", "_law_part_here", "_law_found", "_law_low", "_law_each"]
abbrev p_lworth : List Str := ["_law_row_here", "_law_part_here"]
end
end K5

namespace Ur
open PySem L2
/-- [elt for x in range(lo, hi)] -/
theorem lcR2 {te : TE} {vs : List Nat} {j : Nat} {σ : L2.St} {Q : VK} {ta : TA} {lo hi : Int} {H0 : Hp} (Pe : Nat → V → Prop) (hx : ∀ R : List V → Hp → Prop, R [.int lo, .int hi] H0 → ta σ H0 R) (hl : 0 ≤ lo ∧ lo ≤ 1000) (hh : 0 ≤ hi ∧ hi ≤ 100000) (hw : ∀ x, wipe ((wipe σ vs).set j (some x)) vs = wipe σ vs)
    (he : ∀ (i : Nat) H3, lo + (i : Int) < hi → Same H0 H3 → ∀ Q' : VK, (∀ y H4, Pe i y → Same H3 H4 → Q' y H4) → te ((wipe σ vs).set j (some (.int (lo + (i : Int))))) H3 Q')
    (hq : ∀ D ys H', H0 D = none → Same H0 H' → H' D = some (.lst ys) → ys.length = (hi - lo).toNat → (∀ i y, ys[i]? = some y → Pe i y) → Q (.ref D) H') : tLc (iRng2 ta) (gName j) tYes te vs σ H0 Q := by
  refine hx _ ⟨lo, hi, rfl, ⟨by omega, by omega, by omega, by omega⟩, fun D hD => ?_⟩
  refine lc_range (lo := lo) (n := (hi - lo).toNat) (Made H0 Pe D) (.start hD) (fun i H' hi m => ⟨hw _, ?_⟩) (fun H' ⟨hn, sm, ys, h1, h2, h3⟩ => hq D ys H' hn sm h1 h2 h3)
  unfold tYes
  dsimp only
  rw [if_pos rfl]
  exact m.turn (by omega) (he i H' (by omega) m.same)
end Ur
namespace K5
open PySem L2 Ur
section
variable {P : Program} {w : World} {K :
      PySem.W.Frag} {mg : Str → Option Value} {base : Heap}
abbrev n_lgrown : List Str := ["_law_row_here", "_law_k"]
abbrev p_lgrown : List Str := ["_law_row_here"]
/-! ### sums, products -/
theorem addL_lst {a b : List Int} : addL a b = lst (max a.length b.length) fun i => a.getD i 0 + b.getD i 0 := by
  apply List.ext_getElem?
  intro i
  by_cases h : i < max a.length b.length
  · rw [lst_at h, addL_at a b i h]
  · rw [List.getElem?_eq_none (by rw [addL_len]; omega), List.getElem?_eq_none (by rw [lst_len]; omega)]
def upto (base : Nat → Int) (r : List Int) (k : Nat) : Nat → Int := fun i => base i + if i < k then r.getD i 0 else 0
theorem upto_all {base : Nat → Int} {r : List Int} : upto base r r.length = fun i => base i + r.getD i 0 := by
  funext i
  unfold upto
  by_cases h : i < r.length
  · rw [if_pos h]
  · rw [if_neg h, List.getD_eq_getElem?_getD, List.getElem?_eq_none (by omega)]
    rfl
theorem upto_step {base : Nat → Int} {r : List Int} {k : Nat} (i : Nat) : upto base r (k + 1) i = if i = k then upto base r k k + r.getD k 0 else upto base r k i := by
  unfold upto
  by_cases h : i = k
  · subst h
    rw [if_pos rfl, if_pos (by omega), if_neg (by omega), Int.add_zero]
  · rw [if_neg h]
    by_cases h2 : i < k
    · rw [if_pos h2, if_pos (by omega)]
    · rw [if_neg h2, if_neg (by omega)]
theorem upto_zero {base : Nat → Int} {r : List Int} : upto base r 0 = base := by
  funext i
  unfold upto
  rw [if_neg (by omega), Int.add_zero]
theorem vals_zero {ys : List V} {n : Nat} (hl : ys.length = n) (h : ∀ (i : Nat) (y : V), ys[i]? = some y → y = V.int 0) : ys = (lst n fun _ => 0).map V.int := vals_map (f := fun _ => 0) hl h
abbrev n_ladded : List Str := ["_law_one", "_law_two", "_law_some", "_law_row_here", "_law_k", "_law_turn"]
theorem sc_ladded : FnScope n_ladded p_lot (defScope sLAdded) := ⟨rfl, rfl, rfl, by decide +kernel, rfl, by decide +kernel, by decide +kernel⟩
def spL2 (K : PySem.W.Frag) (f : List Int → List Int → List Int) : Sp := fun vs H Q _ => ∃ (v v' : V) (a b : List Int), vs = [v, v'] ∧ Tp K H v a ∧ Tp K H v' b ∧ a.length ≤ 100 ∧ b.length ≤ 100 ∧ (∀ n ∈ a, n.natAbs < 2 ^ 64) ∧ ∀ p H', Same H H' → Tp K H' p (f a b) → Q p H'
theorem ok_ladded {f : Addr} {fd : FuncData} (F : Fun K "_law_added" "_law_added" sLAdded f fd) (T : Bl mg) (H_law_trim : Has P w K mg base "_law_trim" p_some 1 (spLTrim K)) : FnOk P w K mg base CX0 2 f fd p_lot (spL2 K fun a b => trimL (addL a b)) := by
  refine F.ok sc_ladded (fun vs H Q E h => ?_) (fun cdv A outer s H vs Q E hr h => ?_)
  · obtain ⟨_, _, _, _, rfl, _⟩ := h
    rfl
  · obtain ⟨va, vb, a, b, rfl, ⟨ta, rfl, sa⟩, ⟨tb, rfl, sb⟩, la, lb, _, q⟩ := h
    refine ⟨_, (pss_cons (ps_setLc (i := 2) (own := [("_law_turn", 5)]) (g := gName 5) (tt := tYes) rfl sc_ladded.nd rfl rfl (sw_true rfl rfl rfl (by decide +kernel)) (pi_range1 (by rfl) T.range (pa_cons (pe_callB (call_max2 rfl) (by rfl) T.max PyProof.Rows.boot_max (pa_cons (pe_callB (r := rLen K) len_seq (by rfl) T.len PySem.boot_len (pa_cons (pv 0) pa_nil)) (pa_cons (pe_callB (r := rLen K) len_seq (by rfl) T.len PySem.boot_len (pa_cons (pv 1) pa_nil)) pa_nil))) pa_nil)) (blkOk_by (N := n_ladded) (sc := defScope sLAdded) (by decide +kernel)) (fun _ _ _ _ _ => pg_name (i := 5) sc_ladded.nd rfl (Or.inl rfl)) (fun _ _ _ _ _ => pts_nil) (fun _ _ _ _ _ => pe_int))
      (pss_cons (ps_for PassesOwn.never rfl (pi_list (pe_lst (pa_cons (pv 0) (pa_cons (pv 1) pa_nil)))) (pg_name (i := 3) sc_ladded.nd rfl (Or.inl rfl)) (pss_one (ps_for PassesOwn.never rfl (pi_range1 (by rfl) T.range (pa_cons (pe_callB (r := rLen K) len_seq (by rfl) T.len PySem.boot_len (pa_cons (pv 3) pa_nil)) pa_nil)) (pg_name (i := 4) sc_ladded.nd rfl (Or.inl rfl)) (pss_one (ps_asg (pe_op op_add (pe_ix (r := rIxL K) ix_list (pv 2) (pv 4) (fun _ _ => rfl)) (pe_ix (r := rIxT K) ix_tup (pv 3) (pv 4) (fun _ _ => rfl))) (pg_sub (pv 2) (pv 4) set_list (fun _ => rfl)))))))
      (pss_one (ps_ret (pe_has H_law_trim (hr.mono (by decide)) (by rfl) (pa_cons (pv 2) pa_nil)))))), ?_⟩
    dsimp only
    refine seq_of (asg_of ?_)
    refine lcR (n := ((max a.length b.length : Nat) : Int)) (fun i y => y = .int 0) (fun R r => ⟨_, rfl, ta, _, rfl, Or.inr sa, _, rfl, tb, _, rfl, Or.inr sb, _, _, rfl, ?_⟩) (by omega) (by omega) (fun x => rfl) (fun i H3 hi sm Q' q' => q' _ _ rfl (Same.refl _)) (fun D ys H2 hD s2 hy e1 e2 => ?_)
    · have em : (if ((b.map V.int).length : Int) > ((a.map V.int).length : Int) then ((b.map V.int).length : Int) else ((a.map V.int).length : Int)) = ((max a.length b.length : Nat) : Int) := by
        rw [List.length_map, List.length_map]
        split <;> omega
      rw [em]
      exact r H (Same.refl _)
    have ey := vals_zero (n := max a.length b.length) (by omega) e2
    rw [ey] at hy
    generalize hN : max a.length b.length = N at hy
    have F0 : Found H D N (fun _ => 0) H2 := ⟨hD, s2, hy⟩
    refine ⟨_, rfl, _, rfl, by show 2 ≤ sizeLine; decide, fun l hl => ?_⟩
    have hlD : l ≠ D := fun z => by rw [z, hy] at hl; cases hl
    have hl0 : (upd H2 l (.lst [.ref ta, .ref tb])) l = some (.lst [.ref ta, .ref tb]) := upd_same
    have F00 := F0.pair (o := HO.lst [V.ref ta, .ref tb]) hl
    generalize upd H2 l (.lst [.ref ta, .ref tb]) = H3 at hl0 F00 ⊢
    refine ⟨l, rfl, ⟨_, SqL.of hl0⟩, for_list (K := K) (a := l) (xs := [.ref ta, .ref tb]) (fun i σ H' => ∃ x z : Option V, σ = [some (.ref ta), some (.ref tb), some (.ref D), x, z, none] ∧ Found H D N (match i with | 0 => fun _ => 0 | 1 => fun j => 0 + a.getD j 0 | _ => fun j => 0 + a.getD j 0 + b.getD j 0) H' ∧ H' l = some (.lst [.ref ta, .ref tb])) ⟨none, none, rfl, F00, hl0⟩ (fun i σ H' _ h => by obtain ⟨_, _, _, _, e⟩ := h; exact SqL.of e) ?_ ?_⟩
    · rintro i y σ H' hi ⟨x, z, rfl, F1, hl1⟩
      match i, hi with
      | 0, hi =>
        obtain rfl := Option.some.inj hi
        refine ⟨_, rfl, ta, _, rfl, Or.inr (same_sqT F1.same sa), ?_⟩
        rw [List.length_map]
        refine ⟨((a.length : Nat) : Int), rfl, by omega, by omega, for_range (lo := 0) (n := a.length) (fun k σ H' => ∃ z : Option V, σ = [some (.ref ta), some (.ref tb), some (.ref D), some (.ref ta), z, none] ∧ Found H D N (upto (fun _ => 0) a k) H' ∧ H' l = some (.lst [.ref ta, .ref tb])) ⟨z, rfl, by rw [upto_zero]; exact F1, hl1⟩ ?_ ?_⟩
        · rintro k σ H' hk ⟨z, rfl, F2, hl2⟩
          have hkN : k < N := by omega
          have e0 : (0 : Int) + (k : Int) = ((k : Nat) : Int) := by omega
          rw [e0]
          refine ⟨_, rfl, _, rfl, D, _, _, V.int (upto (fun _ => 0) a k k), rfl, rfl, SqL.of F2.held, atI_nat (by rw [List.getElem?_map, lst_at hkN]; rfl), _, rfl, _, rfl, ta, _, _, V.int a[k], rfl, rfl, same_sqT F2.same sa, atI_nat (by simp [hk]), _, _, rfl, rfl, ?_⟩
          refine ⟨_, rfl, _, rfl, D, _, _, k, rfl, rfl, F2.held, ?_, ⟨_, rfl, F2.put fun i hi => ?_, ?_⟩⟩
          · rw [List.length_map, lst_len]
            unfold ixN
            rw [if_pos (by omega),
                  if_pos (by omega)]
            rfl
          · rw [upto_step, List.getD_eq_getElem?_getD, List.getElem?_eq_getElem hk]
            rfl
          · rw [upd_ne (fun z => hlD z)]
            exact hl2
        · rintro σ H' ⟨z, rfl, F2, hl2⟩
          rw [upto_all] at F2
          exact ⟨_, _, rfl, F2, hl2⟩
      | 1, hi =>
        obtain rfl := Option.some.inj hi
        refine ⟨_, rfl, tb, _, rfl, Or.inr (same_sqT F1.same sb), ?_⟩
        rw [List.length_map]
        refine ⟨((b.length : Nat) : Int), rfl, by omega, by omega, for_range (lo := 0) (n := b.length) (fun k σ H' => ∃ z : Option V, σ = [some (.ref ta), some (.ref tb), some (.ref D), some (.ref tb), z, none] ∧ Found H D N (upto (fun j => 0 + a.getD j 0) b k) H' ∧ H' l = some (.lst [.ref ta, .ref tb])) ⟨z, rfl, by rw [upto_zero]; exact F1, hl1⟩ ?_ ?_⟩
        · rintro k σ H' hk ⟨z, rfl, F2, hl2⟩
          have hkN : k < N := by omega
          have e0 : (0 : Int) + (k : Int) = ((k : Nat) : Int) := by omega
          rw [e0]
          refine ⟨_, rfl, _, rfl, D, _, _, V.int (upto (fun j => 0 + a.getD j 0) b k k), rfl, rfl, SqL.of F2.held, atI_nat (by rw [List.getElem?_map, lst_at hkN]; rfl), _, rfl, _, rfl, tb, _, _, V.int b[k], rfl, rfl, same_sqT F2.same sb, atI_nat (by simp [hk]), _, _, rfl, rfl, ?_⟩
          refine ⟨_, rfl, _, rfl, D, _, _, k, rfl, rfl, F2.held, ?_, ⟨_, rfl, F2.put fun i hi => ?_, ?_⟩⟩
          · rw [List.length_map, lst_len]
            unfold ixN
            rw [if_pos (by omega),
                  if_pos (by omega)]
            rfl
          · rw [upto_step, List.getD_eq_getElem?_getD, List.getElem?_eq_getElem hk]
            rfl
          · rw [upd_ne (fun z => hlD z)]
            exact hl2
        · rintro σ H' ⟨z, rfl, F2, hl2⟩
          rw [upto_all] at F2
          exact ⟨_, _, rfl, F2, hl2⟩
      | i + 2, hi => exact absurd hi (by simp)
    · rintro σ H' ⟨x, z, rfl, F1, hl1⟩
      have ef : lst N (fun j => 0 + a.getD j 0 + b.getD j 0) = addL a b := by
        rw [addL_lst, hN]
        unfold lst
        congr 1
        funext j
        rw [Int.zero_add]
      have hh := F1.held
      refine ⟨_, rfl, D, addL a b, rfl, ?_, by rw [addL_len]; omega, fun p H4 s4 tp => q p H4 (F1.same.trans s4) tp⟩
      rw [← ef]
      exact SqL.of hh
end
end K5

namespace K5
open PySem L2 Ur
section
variable {P : Program} {w : World} {K :
      PySem.W.Frag} {mg : Str → Option Value} {base : Heap}
abbrev n_lmult : List Str := ["_law_one", "_law_two", "_law_some", "_law_k", "_law_j", "_law_turn"]
theorem sc_lmult : FnScope n_lmult p_lot (defScope sLMult) := ⟨rfl, rfl, rfl, by decide +kernel, rfl, by decide +kernel, by decide +kernel⟩
def spMul (K : PySem.W.Frag) : Sp := fun vs H Q _ => ∃ (v v' : V) (a b : List Int), vs = [v, v'] ∧ Tp K H v a ∧ (Tp K H v' b ∨ ∃ tb : Addr, v' = .ref tb ∧ SqL K H tb (b.map V.int)) ∧ a.length ≤ 100 ∧ b.length ≤ 100 ∧ (∀ n ∈ a, n.natAbs < 2 ^ 64) ∧ ∀ p H', Same H H' → Tp K H' p (mulL a b) → Q p H'
theorem ok_lmult {f : Addr} {fd : FuncData} (F : Fun K "_law_multiplied" "_law_multiplied" sLMult f fd) (T : Bl mg) (H_law_trim : Has P w K mg base "_law_trim" p_some 1 (spLTrim K)) : FnOk P w K mg base CX0 2 f fd p_lot (spMul K) := by
  refine F.ok sc_lmult (fun vs H Q E h => ?_) (fun cdv A outer s H vs Q E hr h => ?_)
  · obtain ⟨_, _, _, _, rfl, _⟩ := h
    rfl
  · obtain ⟨va, vb, a, b, rfl, ⟨ta, rfl, sa⟩, ⟨tb, rfl, sb⟩ | ⟨tb, rfl, sb⟩, la, lb, ba, q⟩ := h
    · refine ⟨_, (pss_cons (ps_setLc (i := 2) (own := [("_law_turn", 5)]) (g := gName 5) (tt := tYes) rfl sc_lmult.nd rfl rfl (sw_true rfl rfl rfl (by decide +kernel)) (pi_range1 (by rfl) T.range (pa_cons (pe_op op_add (pe_callB (r := rLen K) len_seq (by rfl) T.len PySem.boot_len (pa_cons (pv 0) pa_nil)) (pe_callB (r := rLen K) len_seq (by rfl) T.len PySem.boot_len (pa_cons (pv 1) pa_nil))) pa_nil)) (blkOk_by (N := n_lmult) (sc := defScope sLMult) (by decide +kernel)) (fun _ _ _ _ _ => pg_name (i := 5) sc_lmult.nd rfl (Or.inl rfl)) (fun _ _ _ _ _ => pts_nil) (fun _ _ _ _ _ => pe_int))
      (pss_cons (ps_for PassesOwn.never rfl (pi_range1 (by rfl) T.range (pa_cons (pe_callB (r := rLen K) len_seq (by rfl) T.len PySem.boot_len (pa_cons (pv 0) pa_nil)) pa_nil)) (pg_name (i := 3) sc_lmult.nd rfl (Or.inl rfl)) (pss_one (ps_for PassesOwn.never rfl (pi_range1 (by rfl) T.range (pa_cons (pe_callB (r := rLen K) len_seq (by rfl) T.len PySem.boot_len (pa_cons (pv 1) pa_nil)) pa_nil)) (pg_name (i := 4) sc_lmult.nd rfl (Or.inl rfl)) (pss_one (ps_asg (pe_op op_add (pe_ix (r := rIxL K) ix_list (pv 2) (pe_op op_add (pv 3) (pv 4)) (fun _ _ => rfl)) (pe_op op_mul (pe_ix (r := rIxT K) ix_tup (pv 0) (pv 3) (fun _ _ => rfl)) (pe_ix (r := rIxT K) ix_tup (pv 1) (pv 4) (fun _ _ => rfl)))) (pg_sub (pv 2) (pe_op op_add (pv 3) (pv 4)) set_list (fun _ => rfl)))))))
      (pss_one (ps_ret (pe_has H_law_trim (hr.mono (by decide)) (by rfl) (pa_cons (pv 2) pa_nil)))))), ?_⟩
      refine seq_of (asg_of ?_)
      refine lcR (n := ((a.length + b.length : Nat) : Int)) (fun i y => y = .int 0) (fun R r => ⟨_, rfl, ta, _, rfl, Or.inr sa, _, rfl, tb, _, rfl, Or.inr sb, _, _, rfl, rfl, ?_⟩) (by omega) (by omega) (fun x => rfl) (fun i H3 hi sm Q' q' => q' _ _ rfl (Same.refl _)) (fun D ys H2 hD s2 hy e1 e2 => ?_)
      · rw [List.length_map, List.length_map]
        exact r H (Same.refl _)
      have ey := vals_zero (n := a.length + b.length) (by omega) e2
      rw [ey] at hy
      generalize hN : a.length + b.length = N at hy
      have F0 : Found H D N (cv a b 0) H2 := ⟨hD, s2, hy⟩
      refine ⟨_, rfl, ta, _, rfl, Or.inr (same_sqT s2 sa), ?_⟩
      rw [List.length_map]
      refine ⟨((a.length : Nat) : Int), rfl, by omega, by omega, for_range (lo := 0) (n := a.length) (fun k σ H' => ∃ x y : Option V, σ = [some (.ref ta), some (.ref tb), some (.ref D), x, y, none] ∧ Found H D N (cv a b k) H') ⟨none, none, rfl, F0⟩ ?_ ?_⟩
      · rintro k σ H' hk ⟨x, y, rfl, F1⟩
        have e0 : (0 : Int) + (k : Int) = ((k : Nat) : Int) := by omega
        rw [e0]
        have hnb := ba a[k] (List.getElem_mem hk)
        refine ⟨_, rfl, tb, _, rfl, Or.inr (same_sqT F1.same sb), ?_⟩
        rw [List.length_map]
        refine ⟨((b.length : Nat) : Int), rfl, by omega, by omega, for_range (lo := 0) (n := b.length) (fun j σ H' => ∃ y : Option V, σ = [some (.ref ta), some (.ref tb), some (.ref D), some (.int (k : Nat)), y, none] ∧ Found H D N (rowAdd (cv a b k) k a[k] b j) H') ⟨y, rfl, by rw [rowAdd_zero]; exact F1⟩ ?_ ?_⟩
        · rintro j σ H' hj ⟨y, rfl, F4⟩
          have e3 : (0 : Int) + (j : Int) = ((j : Nat) : Int) := by omega
          rw [e3]
          have hkj : k + j < N := by omega
          have e1 : ((k : Nat) : Int) + ((j : Nat) : Int) = ((k + j : Nat) : Int) := by omega
          refine ⟨_, rfl, _, rfl, _, rfl, _, _, rfl, rfl, D, _, _, V.int (rowAdd (cv a b k) k a[k] b j (k + j)), rfl, rfl, SqL.of F4.held, ?_, _, rfl, _, rfl, ta, _, _, V.int a[k], rfl, rfl, same_sqT F4.same sa, atI_nat (by simp [hk]), _, rfl, _, rfl, tb, _, _, V.int b[j], rfl, rfl, same_sqT F4.same sb, atI_nat (by simp [hj]), _, _, rfl, rfl, Or.inl (by omega), _, _, rfl, rfl, ?_⟩
          · rw [e1]
            exact atI_nat (by rw [List.getElem?_map, lst_at hkj]; rfl)
          · refine ⟨_, rfl, _, rfl, _, rfl, _, _, rfl, rfl, D, _, _, k + j, rfl, rfl, F4.held, ?_, ⟨_, rfl, F4.put fun i hi => ?_⟩⟩
            · rw [e1, List.length_map, lst_len]
              unfold ixN
              rw [if_pos (by omega),
                    if_pos (by omega)]
              rfl
            · rw [rowAdd_step, List.getD_eq_getElem?_getD, List.getElem?_eq_getElem hj]
              rfl
        · rintro σ H' ⟨y, rfl, F4⟩
          refine ⟨_, _, rfl, ?_⟩
          have : cv a b (k + 1) = rowAdd (cv a b k) k a[k] b b.length := by
            show rowAdd (cv a b k) k (a.getD k 0) b b.length = _
            rw [List.getD_eq_getElem?_getD, List.getElem?_eq_getElem hk]
            rfl
          rw [this]
          exact F4
      · rintro σ H' ⟨x, y, rfl, F1⟩
        refine ⟨_, rfl, D, _, rfl, SqL.of F1.held, by rw [lst_len]; omega, fun p H4 s4 tp => q p H4 (F1.same.trans s4) ?_⟩
        unfold mulL
        rw [hN]
        exact tp
    · refine ⟨_, (pss_cons (ps_setLc (i := 2) (own := [("_law_turn", 5)]) (g := gName 5) (tt := tYes) rfl sc_lmult.nd rfl rfl (sw_true rfl rfl rfl (by decide +kernel)) (pi_range1 (by rfl) T.range (pa_cons (pe_op op_add (pe_callB (r := rLen K) len_seq (by rfl) T.len PySem.boot_len (pa_cons (pv 0) pa_nil)) (pe_callB (r := rLen K) len_seq (by rfl) T.len PySem.boot_len (pa_cons (pv 1) pa_nil))) pa_nil)) (blkOk_by (N := n_lmult) (sc := defScope sLMult) (by decide +kernel)) (fun _ _ _ _ _ => pg_name (i := 5) sc_lmult.nd rfl (Or.inl rfl)) (fun _ _ _ _ _ => pts_nil) (fun _ _ _ _ _ => pe_int))
      (pss_cons (ps_for PassesOwn.never rfl (pi_range1 (by rfl) T.range (pa_cons (pe_callB (r := rLen K) len_seq (by rfl) T.len PySem.boot_len (pa_cons (pv 0) pa_nil)) pa_nil)) (pg_name (i := 3) sc_lmult.nd rfl (Or.inl rfl)) (pss_one (ps_for PassesOwn.never rfl (pi_range1 (by rfl) T.range (pa_cons (pe_callB (r := rLen K) len_seq (by rfl) T.len PySem.boot_len (pa_cons (pv 1) pa_nil)) pa_nil)) (pg_name (i := 4) sc_lmult.nd rfl (Or.inl rfl)) (pss_one (ps_asg (pe_op op_add (pe_ix (r := rIxL K) ix_list (pv 2) (pe_op op_add (pv 3) (pv 4)) (fun _ _ => rfl)) (pe_op op_mul (pe_ix (r := rIxT K) ix_tup (pv 0) (pv 3) (fun _ _ => rfl)) (pe_ix (r := rIxL K) ix_list (pv 1) (pv 4) (fun _ _ => rfl)))) (pg_sub (pv 2) (pe_op op_add (pv 3) (pv 4)) set_list (fun _ => rfl)))))))
      (pss_one (ps_ret (pe_has H_law_trim (hr.mono (by decide)) (by rfl) (pa_cons (pv 2) pa_nil)))))), ?_⟩
      refine seq_of (asg_of ?_)
      refine lcR (n := ((a.length + b.length : Nat) : Int)) (fun i y => y = .int 0) (fun R r => ⟨_, rfl, ta, _, rfl, Or.inr sa, _, rfl, tb, _, rfl, Or.inl sb, _, _, rfl, rfl, ?_⟩) (by omega) (by omega) (fun x => rfl) (fun i H3 hi sm Q' q' => q' _ _ rfl (Same.refl _)) (fun D ys H2 hD s2 hy e1 e2 => ?_)
      · rw [List.length_map, List.length_map]
        exact r H (Same.refl _)
      have ey := vals_zero (n := a.length + b.length) (by omega) e2
      rw [ey] at hy
      generalize hN : a.length + b.length = N at hy
      have F0 : Found H D N (cv a b 0) H2 := ⟨hD, s2, hy⟩
      refine ⟨_, rfl, ta, _, rfl, Or.inr (same_sqT s2 sa), ?_⟩
      rw [List.length_map]
      refine ⟨((a.length : Nat) : Int), rfl, by omega, by omega, for_range (lo := 0) (n := a.length) (fun k σ H' => ∃ x y : Option V, σ = [some (.ref ta), some (.ref tb), some (.ref D), x, y, none] ∧ Found H D N (cv a b k) H') ⟨none, none, rfl, F0⟩ ?_ ?_⟩
      · rintro k σ H' hk ⟨x, y, rfl, F1⟩
        have e0 : (0 : Int) + (k : Int) = ((k : Nat) : Int) := by omega
        rw [e0]
        have hnb := ba a[k] (List.getElem_mem hk)
        refine ⟨_, rfl, tb, _, rfl, Or.inl (F1.same.seq sb), ?_⟩
        rw [List.length_map]
        refine ⟨((b.length : Nat) : Int), rfl, by omega, by omega, for_range (lo := 0) (n := b.length) (fun j σ H' => ∃ y : Option V, σ = [some (.ref ta), some (.ref tb), some (.ref D), some (.int (k : Nat)), y, none] ∧ Found H D N (rowAdd (cv a b k) k a[k] b j) H') ⟨y, rfl, by rw [rowAdd_zero]; exact F1⟩ ?_ ?_⟩
        · rintro j σ H' hj ⟨y, rfl, F4⟩
          have e3 : (0 : Int) + (j : Int) = ((j : Nat) : Int) := by omega
          rw [e3]
          have hkj : k + j < N := by omega
          have e1 : ((k : Nat) : Int) + ((j : Nat) : Int) = ((k + j : Nat) : Int) := by omega
          refine ⟨_, rfl, _, rfl, _, rfl, _, _, rfl, rfl, D, _, _, V.int (rowAdd (cv a b k) k a[k] b j (k + j)), rfl, rfl, SqL.of F4.held, ?_, _, rfl, _, rfl, ta, _, _, V.int a[k], rfl, rfl, same_sqT F4.same sa, atI_nat (by simp [hk]), _, rfl, _, rfl, tb, _, _, V.int b[j], rfl, rfl, F4.same.seq sb, atI_nat (by simp [hj]), _, _, rfl, rfl, Or.inl (by omega), _, _, rfl, rfl, ?_⟩
          · rw [e1]
            exact atI_nat (by rw [List.getElem?_map, lst_at hkj]; rfl)
          · refine ⟨_, rfl, _, rfl, _, rfl, _, _, rfl, rfl, D, _, _, k + j, rfl, rfl, F4.held, ?_, ⟨_, rfl, F4.put fun i hi => ?_⟩⟩
            · rw [e1, List.length_map, lst_len]
              unfold ixN
              rw [if_pos (by omega),
                    if_pos (by omega)]
              rfl
            · rw [rowAdd_step, List.getD_eq_getElem?_getD, List.getElem?_eq_getElem hj]
              rfl
        · rintro σ H' ⟨y, rfl, F4⟩
          refine ⟨_, _, rfl, ?_⟩
          have : cv a b (k + 1) = rowAdd (cv a b k) k a[k] b b.length := by
            show rowAdd (cv a b k) k (a.getD k 0) b b.length = _
            rw [List.getD_eq_getElem?_getD, List.getElem?_eq_getElem hk]
            rfl
          rw [this]
          exact F4
      · rintro σ H' ⟨x, y, rfl, F1⟩
        refine ⟨_, rfl, D, _, rfl, SqL.of F1.held, by rw [lst_len]; omega, fun p H4 s4 tp => q p H4 (F1.same.trans s4) ?_⟩
        unfold mulL
        rw [hN]
        exact tp
/-! ### shortest -/
theorem short_lst {a : List Int} : shortL a = (List.range a.length).map fun i => a.getD i 0 / (gAll a : Int) := by
  unfold shortL
  apply List.ext_getElem?
  intro i
  rw [List.getElem?_map,
        List.getElem?_map]
  by_cases hi : i < a.length
  · rw [List.getElem?_range hi, List.getElem?_eq_getElem hi, Option.map_some, Option.map_some, List.getD_eq_getElem?_getD, List.getElem?_eq_getElem hi]
    rfl
  · rw [List.getElem?_eq_none (by omega), List.getElem?_eq_none (by rw [List.length_range]; omega)]
    rfl
abbrev n_lshort : List Str := ["_law_some", "_law_by", "_law_many", "_law_each"]
theorem sc_lshort : FnScope n_lshort p_some (defScope sLShort) := ⟨rfl, rfl, rfl, by decide +kernel, rfl, by decide +kernel, by decide +kernel⟩
theorem ok_lshort {f : Addr} {fd : FuncData} (F : Fun K "_law_short" "_law_short" sLShort f fd) (T : Bl mg) (H_law_common : Has P w K mg base "_law_common" p_lcom 1 (spLCom K)) : FnOk P w K mg base CX0 2 f fd p_some (spRow1 K shortL) := by
  refine F.ok sc_lshort (fun vs H Q E h => ?_) (fun cdv A outer s H vs Q E hr h => ?_)
  · obtain ⟨_, _, rfl, _⟩ := h
    rfl
  · obtain ⟨va, a, rfl, ⟨ta, rfl, sa⟩, R, q⟩ := h
    refine ⟨_, (pss_cons (ps_asg (pe_tup (pa_cons (pe_callB (call_max2 rfl) (by rfl) T.max PyProof.Rows.boot_max (pa_cons pe_int (pa_cons (pe_has H_law_common (hr.mono (by decide)) (by rfl) (pa_cons (pv 0) pa_nil)) pa_nil))) (pa_cons (pe_callB (r := rLen K) len_seq (by rfl) T.len PySem.boot_len (pa_cons (pv 0) pa_nil)) pa_nil))) (pg_tup rfl (pgs_cons (pg_name (i := 1) sc_lshort.nd rfl (Or.inr rfl)) (pgs_cons (pg_name (i := 2) sc_lshort.nd rfl (Or.inl rfl)) pgs_nil))))
      (pss_cons (ps_while PassesOwn.never ((pw_and (pt_cmpR op_gt (pv 2) pe_int (nomark _)) (pw_and1 (pt_cmpR op_eq (pe_ix (r := rIxT K) ix_tup (pv 0) (pe_op op_sub (pv 2) pe_int) (fun _ _ => rfl)) pe_int (nomark _))))).pt (pss_one (ps_set (i := 2) sc_lshort.nd rfl (Or.inl rfl) (pe_op op_sub (pv 2) pe_int))))
      (pss_one (ps_ret (pe_callTy call_tuple_of (by rfl) T.tuple PyProof.Rows.boot_tuple (pa_cons (pe_lc (own := [("_law_each", 3)]) (g := gName 3) (tt := tYes) rfl sc_lshort.nd (pi_tup (pe_slice sl_tupA (pv 0) po_none (po_some (pv 2)))) (blkOk_by (N := n_lshort) (sc := defScope sLShort) (by decide +kernel)) (fun _ _ _ _ _ => pg_name (i := 3) sc_lshort.nd rfl (Or.inl rfl)) (fun _ _ _ _ _ => pts_nil) (fun _ _ _ _ _ => (pe_op op_fdivW (pv 3) (pv 1)))) pa_nil)))))), ?_⟩
    have hl := R.few
    have gb : gAll a < 2 ^ 9000 := gAll_big a 0 big0 R.b9
    refine ⟨_, rfl, ta, a, rfl, Or.inr sa, _, _, rfl, ?_⟩
    generalize hB : (if ((gAll a : Nat) : Int) > 1 then ((gAll a : Nat) : Int) else 1) = B
    refine ⟨_, rfl, ta, _, rfl, Or.inr sa, by show 2 ≤ sizeLine; decide, fun p0 hp0 => ?_⟩
    rw [List.length_map]
    have s1 := same_new (p := p0) (o := HO.tup [V.int B, .int (a.length : Nat)]) hp0
    refine ⟨p0, _, rfl, SqT.of upd_same, rfl, _, _, rfl, _, _, rfl, rfl, ?_⟩
    have sa1 := same_sqT s1 sa
    generalize upd H p0 (.tup [V.int B, .int (a.length : Nat)]) = H1 at s1 sa1 ⊢
    refine ⟨fun m σ H' => σ = [some (.ref ta), some (.int B), some (.int (a.length : Nat)), none] ∧ H' = H1, ⟨0, rfl, rfl⟩, ?_⟩
    rintro m σ H' ⟨rfl, rfl⟩
    refine ⟨_, rfl, _, _,
          rfl, rfl, _, rfl, ?_⟩
    refine ite2 (fun c
          => ?_) (fun c => ?_)
    · have hlen : 0 < a.length := by have := of_decide_eq_true c; omega
      have hne : a ≠ [] := List.length_pos_iff.mp hlen
      have hlast : (a.map V.int)[a.length - 1]? = some (V.int (a.getLast hne)) := by
        rw [List.getElem?_map, ← List.getLast?_eq_getElem?, List.getLast?_eq_some_getLast hne]
        rfl
      refine ⟨_, rfl, _, rfl, _, _, rfl, rfl, ta, _, _, V.int (a.getLast hne), rfl, rfl, sa1, ?_, rfl, _, rfl, ?_⟩
      · rw [show (((a.length : Nat) : Int) - 1) = ((a.length - 1 : Nat) : Int) by omega]
        exact atI_nat hlast
      · refine ite2 (fun d => absurd (V.int.inj (of_decide_eq_true d)) (lastOk_ne R.last hne)) (fun d => ?_)
        · dsimp only
          unfold tRet tCB tCons tNil
          dsimp only
          refine lcT (K := K) (a := ta) (xs := a.map V.int) (vs := [3]) (j := 3) (σ := [some (V.ref ta), some (V.int B), some (V.int (a.length : Nat)), none]) (fun i y => y = .int (a.getD i 0 / (gAll a : Int))) ?hx sa1 (by rw [List.length_map]; omega) (fun x => rfl) (fun i x H3 hi sm Q' q' => ?_) (fun D ys H2 hD s2 hy e1 e2 => ?_)
          case hx => exact fun R r => ⟨_, rfl, _, rfl, ((a.length : Nat) : Int), rfl, ta, _, rfl, sa1, fun _ => r, fun cw => absurd ⟨rfl, by rw [HT.sIx_nat, List.length_map]; omega⟩ cw⟩
          · obtain ⟨z, hz, rfl⟩ := map_at hi
            have hne : a ≠ [] := fun h => by rw [h] at hz; cases hz
            have g0 := R.g hne
            have eB : B = ((gAll a : Nat) : Int) := by rw [← hB]; split <;> omega
            rw [eB]
            refine ⟨_, rfl, _, rfl, _, _, rfl, rfl, wide_div (b := 9000) (by omega) (by simpa using gb) (by decide) (by decide), q' _ _ ?_ (Same.refl _)⟩
            rw [List.getD_eq_getElem?_getD, hz]
            rfl
          · have ey := vals_map (e1.trans (List.length_map ..)) e2
            refine ⟨D, ys, rfl, Or.inl ⟨SqL.of hy, fun l hl => q _ _ (s1.trans (s2.trans (same_new hl))) ⟨l, rfl, ?_⟩⟩⟩
            rw [short_lst, ← ey]
            exact SqT.of upd_same
    · refine iteF ?_
      dsimp only
      unfold tRet tCB tCons tNil
      dsimp only
      refine lcT (K := K) (a := ta) (xs := a.map V.int) (vs := [3]) (j := 3) (σ := [some (V.ref ta), some (V.int B), some (V.int (a.length : Nat)), none]) (fun i y => y = .int (a.getD i 0 / (gAll a : Int))) ?hx sa1 (by rw [List.length_map]; omega) (fun x => rfl) (fun i x H3 hi sm Q' q' => ?_) (fun D ys H2 hD s2 hy e1 e2 => ?_)
      case hx => exact fun R r => ⟨_, rfl, _, rfl, ((a.length : Nat) : Int), rfl, ta, _, rfl, sa1, fun _ => r, fun cw => absurd ⟨rfl, by rw [HT.sIx_nat, List.length_map]; omega⟩ cw⟩
      · obtain ⟨z, hz, rfl⟩ := map_at hi
        have hne : a ≠ [] := fun h => by rw [h] at hz; cases hz
        have g0 := R.g hne
        have eB : B = ((gAll a : Nat) : Int) := by rw [← hB]; split <;> omega
        rw [eB]
        refine ⟨_, rfl, _, rfl, _, _, rfl, rfl, wide_div (b := 9000) (by omega) (by simpa using gb) (by decide) (by decide), q' _ _ ?_ (Same.refl _)⟩
        rw [List.getD_eq_getElem?_getD, hz]
        rfl
      · have ey := vals_map (e1.trans (List.length_map ..)) e2
        refine ⟨D, ys, rfl, Or.inl ⟨SqL.of hy, fun l hl => q _ _ (s1.trans (s2.trans (same_new hl))) ⟨l, rfl, ?_⟩⟩⟩
        rw [short_lst, ← ey]
        exact SqT.of upd_same
end
end K5

namespace K5
open PySem L2 Ur
theorem menu {x : V} {l : List Int} {lo hi : Int} (h : x ∈ l.map V.int) (hb : ∀ i ∈ l, lo ≤ i ∧ i ≤ hi) : ∃ i, x = .int i ∧ lo ≤ i ∧ i ≤ hi := by
  obtain ⟨i, h1, rfl⟩ := List.mem_map.mp h
  exact ⟨i, rfl, hb i h1⟩
theorem ints_nat {ys : List V} {n : Nat} (h : ∀ (i : Nat) (y : V), ys[i]? = some y → ∃ z : Int, y = .int z ∧ z.natAbs ≤ n) : ∃ ns : List Int, ys = ns.map V.int ∧ ∀ z ∈ ns, z.natAbs ≤ n := by
  induction ys with
  | nil => exact ⟨[], rfl, fun _ h => nomatch h⟩
  | cons y r ih =>
    obtain ⟨ns, e, hb⟩ := ih fun i x hx => h (i + 1) x hx
    obtain ⟨z, rfl, hz⟩ := h 0 y rfl
    refine ⟨z :: ns, by rw [e]; rfl, fun m hm => ?_⟩
    rcases List.mem_cons.mp
          hm with rfl | hm
    · exact hz
    · exact hb m hm
section
variable {P : Program} {w : World} {K :
      PySem.W.Frag} {mg : Str → Option Value} {base : Heap}
abbrev n_lrow : List Str := ["_law_pot_here", "_law_most", "_law_size", "_law_turn"]
abbrev p_lrow : List Str := ["_law_pot_here", "_law_most"]
theorem sc_lrow : FnScope n_lrow p_lrow (defScope sLRow) := ⟨rfl, rfl, rfl, by decide +kernel, rfl, by decide +kernel, by decide +kernel⟩
def spLRow (K : PySem.W.Frag) : Sp := fun vs H Q _ => ∃ (u : Addr) (m : Int), vs = [.ref u, .int m] ∧ H u = some (PotO u) ∧ 0 ≤ m ∧ m ≤ 12 ∧ ∀ (p : V) (a : List Int) (H' : Hp), Same H H' → Tp K H' p a → RowOk a → (a.length : Int) ≤ m → (∀ z ∈ a, z.natAbs ≤ 2 ^ 43) → Q p H'
theorem ok_lrow {f : Addr} {fd : FuncData} (F : Fun K "_law_row" "_law_row" sLRow f fd) (T : Bl mg) (H_law_of : Has P w K mg base "_law_of" p_of 2 spOf) (H_law_from : Has P w K mg base "_law_from" p_from 2 spFrom) (H_law_draw : Has P w K mg base "_law_draw" pDraw 1 spDraw) (H_law_trim : Has P w K mg base "_law_trim" p_some 1 (spLTrim K)) : FnOk P w K mg base CX0 3 f fd p_lrow (spLRow K) := by
  refine F.ok sc_lrow (fun vs H Q E h => ?_) (fun cdv A outer s H vs Q E hr h => ?_)
  · obtain ⟨_, _, rfl, _⟩ := h
    rfl
  · obtain ⟨u, m, rfl, hu, m0, m1, q⟩ := h
    refine ⟨_, (pss_cons (ps_set (i := 2) sc_lrow.nd rfl (Or.inr rfl) (pe_has H_law_of (hr.mono (by decide)) (by rfl) (pa_cons (pv 0) (pa_cons (pe_lst (pa_cons pe_int (pa_cons pe_int (pa_cons pe_int (pa_cons pe_int (pa_cons pe_int (pa_cons (pe_op op_add (pe_op op_pow pe_int pe_int) pe_int) pa_nil))))))) pa_nil))))
      (pss_one (ps_ret (pe_has H_law_trim (hr.mono (by decide)) (by rfl) (pa_cons (pe_lc (own := [("_law_turn", 3)]) (g := gName 3) (tt := tYes) rfl sc_lrow.nd (pi_range1 (by rfl) T.range (pa_cons (pe_has H_law_draw (hr.mono (by decide)) (by rfl) (pa_cons (pv 0) (pa_cons (pe_op op_add (pv 1) pe_int) pa_nil))) pa_nil)) (blkOk_by (N := n_lrow) (sc := defScope sLRow) (by decide +kernel)) (fun _ _ _ _ _ => pg_name (i := 3) sc_lrow.nd rfl (Or.inl rfl)) (fun _ _ _ _ _ => pts_nil) (fun _ _ _ _ _ => (pe_op op_add (pe_op op_mul (pv 2) (pe_has H_law_from (hr.mono (by decide)) (by rfl) (pa_cons (pv 0) (pa_cons (pe_un un_neg pe_int) (pa_cons pe_int pa_nil))))) (pe_has H_law_from (hr.mono (by decide)) (by rfl) (pa_cons (pv 0) (pa_cons (pe_un un_neg pe_int) (pa_cons pe_int pa_nil))))))) pa_nil))))), ?_⟩
    refine ⟨_, rfl, _, _, rfl, rfl, ⟨by decide, by decide, by decide⟩, _, _, rfl, rfl, by show 6 ≤ sizeLine; decide, fun l hl => ⟨u, l, _, rfl, same_new hl _ _ hu, upd_same, by decide, by decide, fun x H1 hx s1 => ?_⟩⟩
    have s01 := (same_new hl).trans s1
    obtain ⟨z, rfl, z0, z1⟩ := menu (l := [1, 1, 1, 1, 1000003, 10 ^ 12 + 39]) (lo := 1) (hi := 1000000000039) hx (by decide)
    unfold tRet tCall tCons tNil gName
    dsimp only
    refine lcRn (fun n => 0 ≤ n ∧ n ≤ m) (fun n i y => ∃ z : Int, y = .int z ∧ z.natAbs ≤ 2 ^ 43) (fun R r => ?_) (fun n hn => ⟨hn.1, by omega⟩) (fun x => rfl) (fun n i H3 hn hi sm Q' q' => ?_) (fun n D ys H2 hn hD s2 hy e1 e2 => ?_)
    · exact ⟨_, rfl, _, rfl, _, _, rfl, rfl, u, _, rfl, s01 _ _ hu, by omega, by omega, fun r1 H3 h0 h1 s3 => r r1 H3 ⟨h0, by omega⟩ s3⟩
    · have hu3 := sm _ _ (s01 _ _ hu)
      refine ⟨_, rfl, _, rfl, _, rfl, u, _, _, rfl, hu3, by decide, by decide, by decide, fun r H4 r0 r1 s4 => ⟨_, _, rfl, rfl, Or.inl (by omega), _, rfl, _, rfl, u, _, _, rfl, s4 _ _ hu3, by decide, by decide, by decide, fun r' H5 r0' r1' s5 => ⟨_, _, rfl, rfl, q' _ _ ⟨_, rfl, ?_⟩ (s4.trans s5)⟩⟩⟩
      have : (z * r).natAbs ≤ 1000000000039 * 4 := by
        rw [Int.natAbs_mul]
        exact Nat.mul_le_mul (by omega) (by omega)
      have h2 : (1000000000039 * 4 + 1 : Nat) ≤ 2 ^ 43 := by decide
      omega
    · obtain ⟨ns, rfl, hb⟩ := ints_nat e2
      rw [List.length_map] at e1
      refine ⟨D, ns, rfl, SqL.of hy, by omega, fun p H4 s4 tp => ?_⟩
      have hl := trim_len ns
      have b2 : ∀ z ∈ trimL ns, z.natAbs ≤ 2 ^ 43 := fun z hz => hb z (trim_mem hz)
      exact q p (trimL ns) H4 ((s01.trans s2).trans s4) tp (trim_ok (by omega) fun n hn => Nat.lt_of_le_of_lt (hb n hn) (by decide)) (by omega) b2
/-! ### the pot -/
abbrev n_pot : List Str := ["_law_script", "_law_turn", "_law_own", "_law_stir", "_law_cell"]
abbrev p_pot : List Str := ["_law_script", "_law_turn"]
theorem sc_pot : FnScope n_pot p_pot (defScope sPot) := ⟨rfl, rfl, rfl, by decide +kernel, rfl, by decide +kernel, by decide +kernel⟩
def spPot (K : PySem.W.Frag) : Sp := fun vs H Q _ => ∃ (a : Addr) (ns : List Int) (t : Int), vs = [.ref a, .int t] ∧ SqL K H a (ns.map V.int) ∧ 0 ≤ t ∧ t ≤ 10 ∧
  ∀ (p : Addr) (x y z : Int) (H' : Hp), H p = none → Same H H' → Bp x y z → H' p = some (.lst (nums x y z)) → Q (.ref p) H'
theorem ok_pot {f : Addr} {fd : FuncData} (F : Fun K "_law_pot" "_law_pot" sPot f fd) (T : Bl mg) : FnOk P w K mg base CX0 1 f fd p_pot (spPot K) := by
  refine F.ok sc_pot (fun vs H Q E h => ?_) (fun cdv A outer s H vs Q E hr h => ?_)
  · obtain ⟨a, ns, lap, rfl, _⟩ := h
    rfl
  · obtain ⟨a, ns, t, rfl, hS, l0, l1, k⟩ := h
    refine ⟨_, (pss_mid (ps_set (i := 2) sc_pot.nd rfl (Or.inl rfl) (pe_ifExp (pt_cmpR op_lt (pv 1) (pe_callB (r := rLen K) len_seq (by rfl) T.len PySem.boot_len (pa_cons (pv 0) pa_nil)) (nomark _)) (pe_callTy call_int1 (by rfl) T.int PyProof.Rows.boot_int (pa_cons (pe_ix (r := rIxL K) ix_list (pv 0) (pv 1) (fun _ _ => rfl)) pa_nil)) (pe_op op_add (pe_op op_add (pe_op op_mod (pe_callTy call_int1 (by rfl) T.int PyProof.Rows.boot_int (pa_cons (pe_callB (cr_sum rfl) (by rfl) T.sum PyProof.Rows.boot_sum (pa_cons (pe_slice sl_list (pv 0) po_none (po_some pe_int)) pa_nil)) pa_nil)) pe_int) (pe_op op_mul pe_int (pv 1))) pe_int)))
      (pss_cons (ps_set (i := 3) sc_pot.nd rfl (Or.inl rfl) (pe_op op_add pe_int (pe_op op_mul pe_int (pv 1))))
      (pss_cons (ps_for PassesOwn.never rfl (pi_list (pe_op op_cat (pe_slice sl_list (pv 0) po_none (po_some pe_int)) (pe_lst (pa_cons (pv 2) pa_nil)))) (pg_name (i := 4) sc_pot.nd rfl (Or.inl rfl)) (pss_one (ps_set (i := 3) sc_pot.nd rfl (Or.inl rfl) (pe_op op_mod (pe_callTy call_int1 (by rfl) T.int PyProof.Rows.boot_int (pa_cons (pe_op op_add (pe_op op_add (pe_op op_mul (pv 3) pe_int) (pe_op op_mod (pe_callTy call_int1 (by rfl) T.int PyProof.Rows.boot_int (pa_cons (pv 4) pa_nil)) pe_int)) pe_int) pa_nil)) pe_int))))
      (pss_one (ps_ret (pe_lst (pa_cons (pe_ifExp ((pw_or (pt_cmpR op_lt (pv 2) pe_int (nomark _)) (pw_or1 (pt_cmpR op_ge (pv 2) (pe_op op_pow pe_int pe_int) (nomark _))))).pt (pe_callB call_abs (by rfl) T.abs PyProof.Rows.boot_abs (pa_cons (pv 2) pa_nil)) pe_int) (pa_cons (pv 3) (pa_cons pe_int pa_nil))))))))), ?_⟩
    refine ⟨fun σ H' => ∃ own : Int, σ = [some (.ref a), some (.int t), some (.int own), none, none] ∧ Same H H', ?_, ?_⟩
    · refine ⟨_, rfl, _, rfl, a, _, rfl, Or.inl hS, _, _, rfl, rfl, _, rfl, ?_⟩
      obtain ⟨j, rfl⟩ := Int.eq_ofNat_of_zero_le l0
      refine ite2 (fun c
            => ?_) (fun c => ?_)
      · have hj : j < ns.length := by
          have := of_decide_eq_true c
          rw [List.length_map] at this
          omega
        exact ⟨_, rfl, _, rfl, a, _, _, V.int ns[j], rfl, rfl, hS, atI_nat (by simp [hj]), Or.inl ⟨_, rfl, _, rfl, Same.refl _⟩⟩
      · refine ⟨_, rfl, 4, rfl, a, _, rfl, hS, fun p hp => ?_⟩
        rw [show ((4 : Int)) = ((4 : Nat) : Int) from rfl, cut_to]
        exact ⟨p, _, rfl, SqL.of upd_same, Or.inl ⟨_, rfl, _, _, rfl, rfl, (by show (0 : Int) < 999979; decide), _, rfl, _, _, rfl, rfl, Or.inl ⟨by decide, by decide⟩, _, _, rfl, rfl, _, _, rfl, rfl, _, rfl, same_new hp⟩⟩
    · rintro σ H0 ⟨own, rfl, s0⟩
      refine ⟨_, rfl, _, _, rfl, rfl, Or.inl ⟨by decide, by decide⟩, _, _, rfl, rfl, ?_⟩
      have hS0 := s0.seq hS
      refine ⟨_, rfl, 9, rfl, a, _, rfl, hS0, fun p hp => ?_⟩
      rw [show ((9 : Int)) = ((9 : Nat) : Int) from rfl, cut_to]
      have sp := same_new (p := p) (o := HO.lst ((ns.take 9).map V.int)) hp
      refine ⟨_, rfl, by show 1 ≤ sizeLine; decide, fun l hl => ?_⟩
      have sl := same_new (p := l) (o := HO.lst [V.int own]) hl
      refine ⟨p, l, (ns.take 9).map V.int, [V.int own], rfl, rfl, sl _ _ upd_same, upd_same, ?_, fun p2 hp2 => ?_⟩
      · rw [List.length_map,
            List.length_take]
        exact Nat.le_trans (by show min 9 ns.length + 1 ≤ 10; omega) (by decide)
      have s2 := same_new (p := p2) (o := HO.lst ((ns.take 9).map V.int ++ [V.int own])) hp2
      have s03 := s0.trans (sp.trans (sl.trans s2))
      have a2 : (upd (upd (upd H0 p (.lst ((ns.take 9).map V.int))) l (.lst [V.int own])) p2 (.lst ((ns.take 9).map V.int ++ [V.int own]))) p2 = some (.lst ((ns.take 9 ++ [own]).map V.int)) := by
        rw [upd_same, List.map_append]
        rfl
      generalize upd (upd (upd H0 p (.lst ((ns.take 9).map V.int))) l (.lst [V.int own])) p2 (.lst ((ns.take 9).map V.int ++ [V.int own])) = H1 at s03 a2 ⊢
      refine ⟨p2, rfl, ⟨_, SqL.of a2⟩, for_list (K := K) (a := p2) (xs := (ns.take 9 ++ [own]).map V.int) (fun i σ H' => ∃ (sd : Int) (v : Option V), σ = [some (.ref a), some (.int t), some (.int own), some (.int sd), v] ∧ 0 ≤ sd ∧ sd < 2147483587 ∧ H' = H1)
        ⟨31013 + 4241 * t, none, rfl, by omega, by omega, rfl⟩ (fun i σ H' _ h => by obtain ⟨_, _, _, _, _, e⟩ := h; exact e ▸ SqL.of a2) ?_ ?_⟩
      · rintro i y σ H' hi ⟨sd, v, rfl, st0, st1, rfl⟩
        obtain ⟨z, _, rfl⟩ := map_at hi
        refine ⟨_, rfl, _, _, rfl, rfl, Or.inl ⟨by omega, by omega⟩, _, rfl, Or.inl ⟨_, rfl, _, _, rfl, rfl, (by show (0 : Int) < 2147483587; decide), _, _, rfl, rfl, _, _, rfl, rfl, Or.inl ⟨_, rfl, _, _, rfl, rfl, (by show (0 : Int) < 2147483587; decide), ?_⟩⟩⟩
        exact ⟨_, _, rfl, Int.emod_nonneg _ (by decide), Int.emod_lt_of_pos _ (by decide), rfl⟩
      · rintro σ H' ⟨sd, v, rfl, st0, st1, rfl⟩
        have s1 := s03
        have B0' : 0 ≤ (if own < 0 then -own else own) := by split <;> omega
        refine ⟨_, rfl, _, _,
              rfl, rfl, _, rfl, ?_⟩
        refine ite2 (fun c
              => ?_) (fun c => ?_)
        · exact ⟨_, rfl, _, rfl, _, rfl, by show 3 ≤ sizeLine; decide, fun r hr2 => k r _ sd 0 _ (s1.free hr2) (s1.trans (same_new hr2)) ⟨B0', st0, by omega, by decide⟩ upd_same⟩
        · refine ⟨_, rfl, _, _, rfl, rfl, ⟨by decide, by decide, by decide⟩, _, _, rfl, rfl, _, rfl, ?_⟩
          refine ite2 (fun c
                => ?_) (fun c => ?_)
          · exact ⟨_, rfl, _, rfl, _, rfl, by show 3 ≤ sizeLine; decide, fun r hr2 => k r _ sd 0 _ (s1.free hr2) (s1.trans (same_new hr2)) ⟨B0', st0, by omega, by decide⟩ upd_same⟩
          · exact ⟨_, rfl, by show 3 ≤ sizeLine; decide, fun r hr2 => k r 0 sd 0 _ (s1.free hr2) (s1.trans (same_new hr2)) ⟨by decide, st0, by omega, by decide⟩ upd_same⟩
end
end K5

namespace K5
open PySem L2 Ur
/-! ### division, plain -/
def conv : List Int → (Nat → Int) → Nat → Int
  | [], _, _ => 0
  | a :: o, T, i => a * T i + (match i with | 0 => 0 | j + 1 => conv o T j)
theorem conv_lin (m s : Int) (p : Nat) (T : Nat → Int) : ∀ (o : List Int) (i : Nat), conv o (fun i => m * T i - s * (if i = p then 1 else 0)) i = m * conv o T i - s * (if p ≤ i then o.getD (i - p) 0 else 0)
  | [], i => by simp [conv]
  | a :: o, 0 => by
    show a * (m * T 0 - s * (if 0 = p then 1 else 0)) + 0 = m * (a * T 0 + 0) - s * _
    by_cases h : p = 0
    · subst h
      rw [if_pos rfl, if_pos (Nat.le_refl _)]
      show _ = _ - s * a
      grind
    · rw [if_neg (by omega), if_neg (by omega)]
      grind
  | a :: o, i + 1 => by
    have ih := conv_lin m s p T o i
    show a * (m * T (i + 1) - s * (if i + 1 = p then 1 else 0)) + conv o _ i = m * (a * T (i + 1) + conv o T i) - s * _
    rw [ih]
    by_cases h1 : p ≤ i
    · rw [if_neg (by omega), if_pos h1, if_pos (by omega), show i + 1 - p = (i - p) + 1 by omega, List.getD_cons_succ]
      grind
    · by_cases h2 : i + 1 = p
      · rw [if_pos h2, if_neg h1, if_pos (by omega), show i + 1 - p = 0 by omega, List.getD_cons_zero]
        grind
      · rw [if_neg h2, if_neg h1, if_neg (by omega)]
        grind
theorem conv_scale (m : Int) (T : Nat → Int) (o : List Int) (i : Nat) : conv o (fun i => m * T i) i = m * conv o T i := by
  have h := conv_lin m 0 0 T o i
  simp only [Int.zero_mul, Int.sub_zero] at h
  exact h
theorem conv_none {T : Nat → Int} (h : ∀ i, T i = 0) : ∀ (o : List Int) (i : Nat), conv o T i = 0
  | [], _ => rfl
  | a :: o, 0 => by
    show a * T 0 + 0 = 0
    rw [h]
    simp
  | a :: o, i + 1 => by
    show a * T (i + 1) + conv o T i = 0
    rw [h, conv_none h o i]
    simp
theorem conv_one (s : Int) : ∀ (o : List Int) (i : Nat), conv o (fun i => if i = 0 then s else 0) i = o.getD i 0 * s
  | [], i => by
    show 0 = ([] : List Int).getD i 0 * s
    simp
  | a :: o, 0 => by
    show a * s + 0 = a * s
    simp
  | a :: o, i + 1 => by
    show a * 0 + conv o _ i = (a :: o).getD (i + 1) 0 * s
    rw [conv_one s o i, List.getD_cons_succ]
    simp
theorem conv_top {T : Nat → Int} {t : Nat} (h : ∀ i, t < i → T i = 0) : ∀ (o : List Int), o ≠ [] → conv o T (o.length - 1 + t) = o.getD (o.length - 1) 0 * T t
  | [], h0 => absurd rfl h0
  | [a], _ => by
    show conv [a] T (0 + t) = a * T t
    rw [Nat.zero_add]
    cases t with
    | zero => show a * T 0 + 0 = a * T 0; simp
    | succ t => show a * T (t + 1) + 0 = a * T (t + 1); simp
  | a :: b :: r, _ => by
    have ih := conv_top h (b :: r) (by simp)
    have e : (a :: b :: r).length - 1 + t = ((b :: r).length - 1 + t) + 1 := by
      simp only [List.length_cons]
      omega
    rw [e]
    show a * T _ + conv (b :: r) T ((b :: r).length - 1 + t) = (a :: b :: r).getD ((b :: r).length - 1 + 1) 0 * T t
    rw [ih, h _ (by omega), List.getD_cons_succ]
    simp
theorem conv_zero {T : Nat → Int} {o : List Int} (h0 : o ≠ []) (hl : o.getD (o.length - 1) 0 ≠ 0) (hz : ∀ i, o.length - 1 ≤ i → conv o T i = 0) : ∀ N, (∀ i, N ≤ i → T i = 0) → ∀ i, T i = 0
  | 0, h, i => h i (Nat.zero_le _)
  | N + 1, h, i => by
    refine conv_zero h0 hl hz N (fun j hj => ?_) i
    by_cases e : j = N
    · subst e
      have h1 := conv_top (t := j) (fun i hi => h i hi) o h0
      rw [hz _ (Nat.le_add_right _ _)] at h1
      rcases Int.mul_eq_zero.mp h1.symm with h2 | h2
      · exact absurd h2 hl
      · exact h2
    · exact h j (by omega)
theorem getD_none {l : List Int} {i : Nat} (h : l.length ≤ i) : l.getD i 0 = 0 := by
  rw [List.getD_eq_getElem?_getD, List.getElem?_eq_none h]
  rfl
theorem trim_getD : ∀ (l : List Int) (i : Nat), (trimL l).getD i 0 = l.getD i 0
  | [], _ => rfl
  | x :: r, i => by
    unfold trimL
    split
    · rename_i c
      obtain ⟨c1, rfl⟩ := c
      cases i with
      | zero => rfl
      | succ i =>
        rw [List.getD_cons_succ, ← trim_getD r i, c1]
        rfl
    · cases i with
      | zero => rfl
      | succ i => rw [List.getD_cons_succ, List.getD_cons_succ, trim_getD r i]
theorem lst_getD {N : Nat} {f : Nat → Int} (i : Nat) : (lst N f).getD i 0 = if i < N then f i else 0 := by
  by_cases h : i < N
  · rw [if_pos h, List.getD_eq_getElem?_getD, lst_at h]
    rfl
  · rw [if_neg h, getD_none (by rw [lst_len]; omega)]
theorem add_getD : ∀ (a b : List Int) (i : Nat), (addL a b).getD i 0 = a.getD i 0 + b.getD i 0
  | [], b, i => by simp [addL]
  | x :: a, [], i => by
    rw [addL_nil]
    simp
  | x :: a, y :: b, 0 => rfl
  | x :: a, y :: b, i + 1 => by
    show (addL a b).getD i 0 = a.getD i 0 + b.getD i 0
    exact add_getD a b i
theorem cv_cons (x : Int) (a b : List Int) : ∀ k i, cv (x :: a) b (k + 1) i = x * b.getD i 0 + (match i with | 0 => 0 | j + 1 => cv a b k j)
  | 0, i => by
    show (0 : Int) + (if 0 ≤ i ∧ i - 0 < b.length then x * b.getD (i - 0) 0 else 0) = _
    have e : (match i with | 0 => (0 : Int) | j + 1 => cv a b 0 j) = 0 := by
      cases i <;> rfl
    rw [e, Nat.sub_zero]
    by_cases h : i < b.length
    · rw [if_pos ⟨Nat.zero_le _, h⟩]
      simp
    · rw [if_neg (fun c => h c.2), getD_none (by omega)]
      simp
  | k + 1, i => by
    have ih := cv_cons x a b k i
    show cv (x :: a) b (k + 1) i + (if k + 1 ≤ i ∧ i - (k + 1) < b.length then (x :: a).getD (k + 1) 0 * b.getD (i - (k + 1)) 0 else 0) = _
    rw [ih, List.getD_cons_succ]
    cases i with
    | zero =>
      rw [if_neg (by omega)]
      simp
    | succ j =>
      show x * b.getD (j + 1) 0 + cv a b k j + _ = x * b.getD (j + 1) 0 + (cv a b k j + if k ≤ j ∧ j - k < b.length then a.getD k 0 * b.getD (j - k) 0 else 0)
      have e : j + 1 - (k + 1) = j - k := by omega
      rw [e]
      by_cases h : k ≤ j ∧ j - k < b.length
      · rw [if_pos h, if_pos ⟨by omega, h.2⟩, Int.add_assoc]
      · rw [if_neg h, if_neg (fun c => h ⟨by omega, c.2⟩), Int.add_assoc]
theorem cv_conv (b : List Int) : ∀ (a : List Int) (i : Nat), cv a b a.length i = conv a (fun j => b.getD j 0) i
  | [], _ => rfl
  | x :: a, i => by
    show cv (x :: a) b (a.length + 1) i = _
    rw [cv_cons]
    cases i with
    | zero => rfl
    | succ j => show _ + cv a b a.length j = _ + conv a _ j; rw [cv_conv b a j]
theorem mul_getD (a b : List Int) (i : Nat) : (mulL a b).getD i 0 = conv a (fun j => b.getD j 0) i := by
  unfold mulL
  rw [trim_getD, lst_getD, ← cv_conv]
  by_cases h : i < a.length + b.length
  · rw [if_pos h]
  · rw [if_neg h, cv_zero (by omega)]
theorem mul_one_getD (a : List Int) (s : Int) (i : Nat) : (mulL a [s]).getD i 0 = a.getD i 0 * s := by
  rw [mul_getD, ← conv_one]
  congr 1
  funext j
  cases j <;> rfl
theorem last_getD {l : List Int} (h0 : l ≠ []) : l.getD (l.length - 1) 0 = l.getLast h0 := by
  rw [List.getD_eq_getElem?_getD, ← List.getLast?_eq_getElem?, List.getLast?_eq_some_getLast h0]
  rfl
theorem last_ne {l : List Int} (h : l.getLast? ≠ some 0) (h0 : l ≠ []) : l.getD (l.length - 1) 0 ≠ 0 := by
  rw [last_getD h0]
  intro e
  exact h (by rw [List.getLast?_eq_some_getLast h0, e])
theorem len_le_of {a b : List Int} (ha : a.getLast? ≠ some 0) (h : ∀ i, a.getD i 0 ≠ 0 → b.getD i 0 ≠ 0) : a.length ≤ b.length := by
  by_cases h0 : a = []
  · rw [h0]
    exact Nat.zero_le _
  · have h1 := h _ (last_ne ha h0)
    have hp : 0 < a.length := List.length_pos_iff.mpr h0
    by_cases h2 : a.length ≤ b.length
    · exact h2
    · exact absurd (getD_none (by omega)) h1
theorem rows_ext {a b : List Int} (ha : a.getLast? ≠ some 0) (hb : b.getLast? ≠ some 0) (h : ∀ i, a.getD i 0 = b.getD i 0) : a = b := by
  have h1 := len_le_of (b := b) ha fun i hi => by rw [← h i]; exact hi
  have h2 := len_le_of (b := a) hb fun i hi => by rw [h i]; exact hi
  apply List.ext_getElem?
  intro i
  have e := h i
  rw [List.getD_eq_getElem?_getD, List.getD_eq_getElem?_getD] at e
  by_cases hi : i < a.length
  · rw [List.getElem?_eq_getElem hi, List.getElem?_eq_getElem (by omega)] at e ⊢
    exact congrArg some e
  · rw [List.getElem?_eq_none (by omega), List.getElem?_eq_none (by omega)]
/-! ### shortest rows of multiples -/
theorem gAll_scale (k : Int) : ∀ (l : List Int) (g : Nat), (l.map fun n => k * n).foldl (fun g n => Nat.gcd g n.natAbs) (k.natAbs * g) = k.natAbs * l.foldl (fun g n => Nat.gcd g n.natAbs) g
  | [], _ => rfl
  | n :: r, g => by
    show (r.map fun n => k * n).foldl _ (Nat.gcd (k.natAbs * g) (k * n).natAbs) = _
    rw [Int.natAbs_mul, Nat.gcd_mul_left]
    exact gAll_scale k r _
theorem short_scale {k : Int} (hk : 0 < k) (l : List Int) : shortL (l.map fun n => k * n) = shortL l := by
  have e : gAll (l.map fun n => k * n) = k.natAbs * gAll l := by
    have := gAll_scale k l 0
    rw [Nat.mul_zero] at this
    exact this
  unfold shortL
  rw [e, List.map_map]
  apply List.map_congr_left
  intro n hn
  show (k * n) / ((k.natAbs * gAll l : Nat) : Int) = n / (gAll l : Int)
  rw [Int.natCast_mul, Int.natAbs_of_nonneg (Int.le_of_lt hk), Int.mul_ediv_mul_of_pos _ _ hk]
theorem scale_last {k : Int} (hk : 0 < k) {l : List Int} (h : l.getLast? ≠ some 0) : (l.map fun n => k * n).getLast? ≠ some 0 := by
  rw [List.getLast?_map]
  intro e
  cases hl : l.getLast? with
  | none => rw [hl] at e; cases e
  | some x =>
    rw [hl] at e
    have e1 : k * x = 0 := Option.some.inj e
    rcases Int.mul_eq_zero.mp e1 with h2 | h2
    · omega
    · exact h (by rw [hl, h2])
theorem scale_getD (k : Int) (l : List Int) (i : Nat) : (l.map fun n => k * n).getD i 0 = k * l.getD i 0 := by
  rw [List.getD_eq_getElem?_getD,
        List.getD_eq_getElem?_getD, List.getElem?_map]
  cases l[i]? <;> simp
/-- what stays while a row is divided: it is a multiple of the one and some of the other -/
structure Rem (o S rest : List Int) : Prop where
  tr : rest.getLast? ≠ some 0
  is : ∃ (k : Int) (T : Nat → Int) (N : Nat), 0 < k ∧ (∀ i, N ≤ i → T i = 0) ∧ ∀ i, rest.getD i 0 = k * S.getD i 0 + conv o T i
theorem Rem.done {o S rest : List Int} (h : Rem o S rest) (ho : o ≠ []) (hol : o.getLast? ≠ some 0) (hS : S.getLast? ≠ some 0) (hSl : S.length < o.length) (hr : rest.length < o.length) : shortL rest = shortL S := by
  obtain ⟨k, T, N, hk, hT, e⟩ := h.is
  have z := conv_zero ho (last_ne hol ho) (fun i hi => by
    have := e i
    rw [getD_none (l := rest) (by omega), getD_none (l := S) (by omega), Int.mul_zero, Int.zero_add] at this
    exact this.symm) N hT
  have e2 : rest = S.map fun n => k * n := rows_ext h.tr (scale_last hk hS) fun i => by
    rw [e i, conv_none z, Int.add_zero, scale_getD]
  rw [e2, short_scale hk]
/-- one step of the division -/
def stM (rl ol : Int) : Int := ol.natAbs / (Nat.gcd rl.natAbs ol.natAbs : Nat)
def stS (rl ol : Int) : Int := rl / (Nat.gcd rl.natAbs ol.natAbs : Nat) * ol.sign
theorem st_eq {rl ol : Int} (ho : ol ≠ 0) : 0 < stM rl ol ∧ rl * stM rl ol - stS rl ol * ol = 0 := by
  have hg : 0 < Nat.gcd rl.natAbs ol.natAbs := Nat.gcd_pos_of_pos_right _ (by omega)
  obtain ⟨p, hp⟩ : ∃ p : Int, rl = (Nat.gcd rl.natAbs ol.natAbs : Nat) * p := Int.ofNat_dvd_left.mpr (Nat.gcd_dvd_left _ _)
  obtain ⟨r, hr⟩ : ∃ r : Nat, ol.natAbs = Nat.gcd rl.natAbs ol.natAbs * r := Nat.gcd_dvd_right _ _
  unfold stM stS
  generalize hG : Nat.gcd rl.natAbs ol.natAbs = g at *
  have hg' : (g : Int) ≠ 0 := by omega
  have e1 : ((ol.natAbs : Nat) : Int) / (g : Int) = r := by
    rw [hr, Int.natCast_mul]
    exact Int.mul_ediv_cancel_left _ hg'
  have e2 : rl / (g : Int) = p := by
    rw [hp]
    exact Int.mul_ediv_cancel_left _ hg'
  rw [e1, e2]
  have hrp : 0 < r := by
    rcases Nat.eq_zero_or_pos r with h | h
    · rw [h, Nat.mul_zero] at hr
      omega
    · exact h
  refine ⟨by omega, ?_⟩
  have e3 : p * ol.sign * ol = p * (ol.natAbs : Int) := by
    rw [Int.mul_assoc, Int.mul_comm ol.sign, Int.mul_sign_self]
  rw [e3, hr, hp, Int.natCast_mul]
  grind
def stepL (o rest : List Int) : List Int :=
  trimL (lst rest.length (rowAdd (fun i => rest.getD i 0 * stM (rest.getD (rest.length - 1) 0) (o.getD (o.length - 1) 0)) (rest.length - o.length) (-stS (rest.getD (rest.length - 1) 0) (o.getD (o.length - 1) 0)) o o.length))
theorem rowAdd_at {g : Nat → Int} {k : Nat} {x : Int} {b : List Int} (i : Nat) : rowAdd g k x b b.length i = g i + x * (if k ≤ i then b.getD (i - k) 0 else 0) := by
  show g i + (if k ≤ i ∧ i - k < b.length then x * b.getD (i - k) 0 else 0) = _
  by_cases h : k ≤ i
  · by_cases h2 : i - k < b.length
    · rw [if_pos ⟨h, h2⟩, if_pos h]
    · rw [if_neg (fun c => h2 c.2), if_pos h, getD_none (by omega), Int.mul_zero]
  · rw [if_neg (fun c => h c.1), if_neg h, Int.mul_zero]
theorem step_getD {o rest : List Int} (h0 : 0 < o.length) (hl : o.length ≤ rest.length) (i : Nat) : (stepL o rest).getD i 0 = rest.getD i 0 * stM (rest.getD (rest.length - 1) 0) (o.getD (o.length - 1) 0) - stS (rest.getD (rest.length - 1) 0) (o.getD (o.length - 1) 0) * (if rest.length - o.length ≤ i then o.getD (i - (rest.length - o.length)) 0 else 0) := by
  unfold stepL
  rw [trim_getD, lst_getD, rowAdd_at]
  generalize stM (rest.getD (rest.length - 1) 0) (o.getD (o.length - 1) 0) = m
  generalize stS (rest.getD (rest.length - 1) 0) (o.getD (o.length - 1) 0) = s
  by_cases h : i < rest.length
  · rw [if_pos h]
    grind
  · rw [if_neg h, getD_none (l := rest) (by omega), if_pos (by omega), getD_none (l := o) (by omega)]
    grind
theorem step_rem {o S rest : List Int} (h : Rem o S rest) (ho : o ≠ []) (hol : o.getLast? ≠ some 0) (hl : o.length ≤ rest.length) : Rem o S (stepL o rest) := by
  obtain ⟨k, T, N, hk, hT, e⟩ := h.is
  have h0 : 0 < o.length := List.length_pos_iff.mpr ho
  obtain ⟨m0, _⟩ := st_eq (rl := rest.getD (rest.length - 1) 0) (last_ne hol ho)
  refine ⟨trim_last _, ?_⟩
  have sg := step_getD (o := o) (rest := rest) h0 hl
  generalize stM (rest.getD (rest.length - 1) 0) (o.getD (o.length - 1) 0) = m at m0 sg
  generalize stS (rest.getD (rest.length - 1) 0) (o.getD (o.length - 1) 0) = s at sg
  refine ⟨m * k, fun i => m * T i - s * (if i = rest.length - o.length then 1 else 0), max N (rest.length + 1), Int.mul_pos m0 hk, fun i hi => ?_, fun i => ?_⟩
  · show m * T i - s * _ = 0
    rw [hT i (by omega), if_neg (by omega)]
    simp
  · rw [sg, conv_lin, e i]
    grind
theorem step_less {o rest : List Int} (ho : o ≠ []) (hol : o.getLast? ≠ some 0) (hl : o.length ≤ rest.length) : (stepL o rest).length < rest.length := by
  have h0 : 0 < o.length := List.length_pos_iff.mpr ho
  have e := step_getD (o := o) (rest := rest) h0 hl (rest.length - 1)
  rw [if_pos (by omega), show rest.length - 1 - (rest.length - o.length) = o.length - 1 by omega, (st_eq (last_ne hol ho)).2] at e
  have hle : (stepL o rest).length ≤ rest.length := by
    unfold stepL
    refine Nat.le_trans (trim_len _) ?_
    rw [lst_len]
    exact Nat.le_refl _
  rcases Nat.lt_or_ge (stepL o rest).length rest.length with h | h
  · exact h
  · exfalso
    have el : (stepL o rest).length = rest.length := Nat.le_antisymm hle h
    have hne : stepL o rest ≠ [] := fun z => by
      rw [z] at el
      have := List.length_nil (α := Int)
      omega
    have := last_ne (l := stepL o rest) (trim_last _) hne
    rw [el] at this
    exact this e
/-! ### how great the numbers get -/
theorem st_le {rl ol : Int} (ho : ol ≠ 0) (h8 : ol.natAbs ≤ 8) : (stM rl ol).natAbs ≤ 8 ∧ (stS rl ol).natAbs ≤ rl.natAbs := by
  have hg : 0 < Nat.gcd rl.natAbs ol.natAbs := Nat.gcd_pos_of_pos_right _ (by omega)
  unfold stM stS
  constructor
  · rw [← Int.natCast_ediv, Int.natAbs_natCast]
    exact Nat.le_trans (Nat.div_le_self _ _) h8
  · obtain ⟨p, hp⟩ : ∃ p : Int, rl = (Nat.gcd rl.natAbs ol.natAbs : Nat) * p := Int.ofNat_dvd_left.mpr (Nat.gcd_dvd_left _ _)
    generalize hG : Nat.gcd rl.natAbs ol.natAbs = g at *
    have e2 : rl / (g : Int) = p := by
      rw [hp]
      exact Int.mul_ediv_cancel_left _ (by omega)
    rw [e2, Int.natAbs_mul, Int.natAbs_sign_of_ne_zero ho, Nat.mul_one, hp, Int.natAbs_mul, Int.natAbs_natCast]
    exact Nat.le_mul_of_pos_left _ hg
theorem getD_le' {a : List Int} {B : Nat} (h : ∀ z ∈ a, z.natAbs ≤ B) (i : Nat) : (a.getD i 0).natAbs ≤ B := by
  rw [ List.getD_eq_getElem?_getD ]
  cases e : a[i]? with
  | none => exact Nat.zero_le _
  | some x => exact h x (List.mem_of_getElem? e)
theorem mem_getD {a : List Int} {z : Int} (h : z ∈ a) : ∃ i, z = a.getD i 0 := by
  obtain ⟨i, hi, e⟩ := List.getElem_of_mem h
  refine ⟨i, ?_⟩
  rw [List.getD_eq_getElem?_getD, List.getElem?_eq_getElem hi, e]
  rfl
theorem step_mem {o rest : List Int} {B : Nat} (ho : o ≠ []) (hol : o.getLast? ≠ some 0) (hl : o.length ≤ rest.length) (h8 : ∀ z ∈ o, z.natAbs ≤ 8) (hb : ∀ z ∈ rest, z.natAbs ≤ B) : ∀ z ∈ stepL o rest, z.natAbs ≤ 16 * B := by
  intro z hz
  obtain ⟨i, rfl⟩ := mem_getD hz
  have h0 : 0 < o.length := List.length_pos_iff.mpr ho
  rw [step_getD h0 hl]
  obtain ⟨b1, b2⟩ := st_le (rl := rest.getD (rest.length - 1) 0) (last_ne hol ho) (getD_le' h8 _)
  have b3 := Nat.le_trans b2 (getD_le' hb _)
  have b4 := getD_le' hb i
  have b5 : (if rest.length - o.length ≤ i then o.getD (i - (rest.length - o.length)) 0 else 0).natAbs ≤ 8 := by
    split
    · exact getD_le' h8 _
    · exact Nat.zero_le _
  generalize stM (rest.getD (rest.length - 1) 0) (o.getD (o.length - 1) 0) = m at *
  generalize stS (rest.getD (rest.length - 1) 0) (o.getD (o.length - 1) 0) = s at *
  generalize (if rest.length - o.length ≤ i then o.getD (i - (rest.length - o.length)) 0 else 0) = c at *
  generalize rest.getD i 0 = x at *
  have c1 : (x * m).natAbs ≤ B * 8 := by
    rw [Int.natAbs_mul]
    exact Nat.mul_le_mul b4 b1
  have c2 : (s * c).natAbs ≤ B * 8 := by
    rw [Int.natAbs_mul]
    exact Nat.mul_le_mul b3 b5
  omega
theorem cv_le {a b : List Int} {B C : Nat} (ha : ∀ z ∈ a, z.natAbs ≤ B) (hb : ∀ z ∈ b, z.natAbs ≤ C) : ∀ k i, k ≤ a.length → (cv a b k i).natAbs ≤ k * (B * C)
  | 0, _, _ => Nat.zero_le _
  | k + 1, i, h => by
    have ih := cv_le ha hb k i (by omega)
    show (cv a b k i + (if k ≤ i ∧ i - k < b.length then a.getD k 0 * b.getD (i - k) 0 else 0)).natAbs ≤ (k + 1) * (B * C)
    rw [Nat.succ_mul]
    split
    · rename_i c
      have e1 : a.getD k 0 = a[k] := by rw [List.getD_eq_getElem?_getD, List.getElem?_eq_getElem (by omega)]; rfl
      have e2 : b.getD (i - k) 0 = b[i - k] := by rw [List.getD_eq_getElem?_getD, List.getElem?_eq_getElem c.2]; rfl
      rw [e1, e2]
      refine Nat.le_trans (Int.natAbs_add_le _ _) (Nat.add_le_add ih ?_)
      rw [Int.natAbs_mul]
      exact Nat.mul_le_mul (ha _ (List.getElem_mem _)) (hb _ (List.getElem_mem _))
    · rw [Int.add_zero]
      omega
theorem mul_len {a b : List Int} : (mulL a b).length ≤ a.length + b.length - 1 := by
  by_cases h : 0 < a.length + b.length
  · rw [mul_less h]
    exact Nat.le_trans (trim_len _) (by rw [lst_len]; exact Nat.le_refl _)
  · have : a = [] := List.length_eq_zero_iff.mp (by omega)
    subst this
    rw [mul_nil1]
    exact Nat.zero_le _
theorem mul_mem {a b : List Int} {B C : Nat} (ha : ∀ z ∈ a, z.natAbs ≤ B) (hb : ∀ z ∈ b, z.natAbs ≤ C) : ∀ z ∈ mulL a b, z.natAbs ≤ a.length * (B * C) := by
  intro z hz
  have h1 := trim_mem hz
  unfold lst at h1
  obtain ⟨i, _, rfl⟩ := List.mem_map.mp h1
  exact cv_le ha hb _ _ (Nat.le_refl _)
theorem add_mem {B : Nat} : ∀ {a b : List Int}, (∀ z ∈ a, z.natAbs ≤ B) → (∀ z ∈ b, z.natAbs ≤ B) → ∀ z ∈ addL a b, z.natAbs ≤ B + B
  | [], b, _, hb, z, hz => Nat.le_trans (hb z hz) (Nat.le_add_left _ _)
  | x :: a, [], ha, _, z, hz => Nat.le_trans (ha z (by rw [addL_nil] at hz; exact hz)) (Nat.le_add_left _ _)
  | x :: a, y :: b, ha, hb, z, hz => by
    rcases List.mem_cons.mp
          hz with rfl | hz
    · have h1 := ha x List.mem_cons_self
      have h2 := hb y List.mem_cons_self
      omega
    · exact add_mem (fun z hz => ha z (List.mem_cons_of_mem _ hz)) (fun z hz => hb z (List.mem_cons_of_mem _ hz)) z hz
end K5

namespace K5
open PySem L2 Ur
def sgn (n : Int) : Int := if 0 < n then 1 else if n < 0 then -1 else 0
theorem sgn_sign (n : Int) : sgn n = n.sign := by
  unfold sgn
  split
  · rw [Int.sign_eq_one_of_pos ‹_›]
  · split
    · rw [Int.sign_eq_neg_one_of_neg ‹_›]
    · have : n = 0 := by omega
      subst this
      rfl
abbrev sSign : Stmt := top 6
abbrev sRDiv : Stmt := top 18
abbrev sRRem : Stmt := top 19
abbrev sRemn : Stmt := top 21
/-- what can be divided here -/
structure DivOk (a o S : List Int) : Prop where
  ho : o ≠ []
  hol : o.getLast? ≠ some 0
  hS : S.getLast? ≠ some 0
  hSl : S.length < o.length
  rem : Rem o S a
  la : a.length ≤ 13
  lo : o.length ≤ 13
  big : ∀ z ∈ a, z.natAbs ≤ 2 ^ 80
  bo : ∀ z ∈ o, z.natAbs ≤ 2 ^ 80
  h8 : (∀ z ∈ o, z.natAbs ≤ 8) ∨ a.length < o.length
def spDiv (K : PySem.W.Frag) : Sp := fun vs H Q _ => ∃ (v v' : V) (a o S : List Int), vs = [v, v'] ∧ Tp K H v a ∧ Tp K H v' o ∧ DivOk a o S ∧ ∀ (t : Addr) (q : V) (tr : Addr) (r : List Int) (H' : Hp), Same H H' → SqT K H' t [q, .ref tr] → SqT K H' tr (r.map V.int) → Rem o S r → r.length < o.length → (∀ z ∈ r, z.natAbs < 2 ^ 200) → Q (.ref t) H'
def spRemn (K : PySem.W.Frag) : Sp := fun vs H Q _ => ∃ (v v' : V) (a o S : List Int), vs = [v, v'] ∧ Tp K H v a ∧ Tp K H v' o ∧ DivOk a o S ∧ ∀ (p : V) (H' : Hp), Same H H' → Tp K H' p (shortL S) → Q p H'
section
variable {P : Program} {w : World} {K :
      PySem.W.Frag} {mg : Str → Option Value} {base : Heap}
abbrev p_num : List Str := ["number"]
theorem sc_sign : FnScope p_num p_num (defScope sSign) := ⟨rfl, rfl, rfl, by decide +kernel, rfl, by decide +kernel, by decide +kernel⟩
def spSgn : Sp := fun vs H Q _ => ∃ n : Int, vs = [.int n] ∧ Q (.int (sgn n)) H
theorem ok_sign {f : Addr} {fd : FuncData} (F : Fun K "sign_of" "sign_of" sSign f fd) : FnOk P w K mg base CX0 1 f fd p_num spSgn := by
  refine F.ok sc_sign (fun vs H Q E h => ?_) (fun cdv A outer s H vs Q E hr h => ?_)
  · obtain ⟨n, rfl, _⟩ := h
    rfl
  · obtain ⟨n, rfl, q⟩ := h
    refine ⟨_, (pss_cons (ps_if (pt_cmpR op_gt (pv 0) pe_int (nomark _)) (pss_one (ps_ret pe_int)) pss_nil)
      (pss_one (ps_ret (pe_ifExp (pt_cmpR op_lt (pv 0) pe_int (nomark _)) (pe_un un_neg pe_int) pe_int)))), ?_⟩
    unfold sgn at q
    refine ⟨_, rfl, _, _,
          rfl, rfl, _, rfl, ?_⟩
    refine ite2 (fun c
          => ?_) (fun c => ?_)
    · rw [if_pos (of_decide_eq_true c)] at q
      exact q
    · have c' : ¬ 0 < n := fun z => c (decide_eq_true z)
      rw [if_neg c'] at q
      refine ⟨_, rfl, _, _,
            rfl, rfl, _, rfl, ?_⟩
      refine ite2 (fun d => ?_) (fun d => ?_)
      · rw [if_pos (of_decide_eq_true d)] at q
        exact ⟨_, rfl, q⟩
      · rw [if_neg fun z => d (decide_eq_true z)] at q
        exact q
theorem at_last {l : List Int} (h : l ≠ []) : atI (l.map V.int) (-1) = some (V.int (l.getD (l.length - 1) 0)) := by
  have e : l.map V.int = l.dropLast.map V.int ++ [V.int (l.getLast h)] := by
    have := congrArg (List.map V.int) (List.dropLast_concat_getLast h).symm
    rw [List.map_append] at this
    exact this
  rw [e, last_getD h]
  exact atI_last _ _
theorem small9 {n : Nat} (h : n ≤ 100) : n < 2 ^ 9000 := Nat.lt_of_le_of_lt h (Nat.lt_of_lt_of_le (by decide : 100 < 2 ^ 7) (Nat.pow_le_pow_right (by decide) (by decide)))
abbrev n_rdiv : List Str := ["row", "other", "rest", "quotient", "divisor", "many", "share", "at", "k", "n"]
theorem sc_rdiv : FnScope n_rdiv p_ro (defScope sRDiv) := ⟨rfl, rfl, rfl, by decide +kernel, rfl, by decide +kernel, by decide +kernel⟩
/-- how great the numbers are when so many are left -/
def lim (n : Nat) : Nat := 2 ^ (80 + 4 * (13 - n))
theorem lim_big (n : Nat) : 2 ^ 80 ≤ lim n := Nat.pow_le_pow_right (by decide) (Nat.le_add_right _ _)
theorem lim_less (n : Nat) : lim n ≤ 2 ^ 132 := Nat.pow_le_pow_right (by decide) (by omega)
theorem lim_step {n m : Nat} (h : n < m) (hm : m ≤ 13) : 16 * lim m ≤ lim n := by
  unfold lim
  rw [show (16 : Nat) = 2 ^ 4 from rfl, ← Nat.pow_add]
  exact Nat.pow_le_pow_right
        (by decide) (by omega)
structure DivAt (H : Hp) (a o S : List Int) (R D : Addr) (r qs : List Int) (H' : Hp) : Prop where
  same : Same H H'
  rest : H' R = some (.lst (r.map V.int))
  quot : H' D = some (.lst (qs.map V.int))
  rem : Rem o S r
  few : r.length ≤ a.length
  many : a.length + 1 ≤ qs.length + o.length
  lq : qs.length ≤ 14
  br : ∀ z ∈ r, z.natAbs ≤ lim r.length
  bq : ∀ z ∈ qs, z.natAbs ≤ lim r.length
theorem ok_rdiv {f : Addr} {fd : FuncData} (F : Fun K "row_division" "row_division" sRDiv f fd) (T : Bl mg) (mG : mg "gcd" = some (.builtin "math.gcd")) (H_sign_of : Has P w K mg base "sign_of" p_num 1 spSgn) (H_trimmed : Has P w K mg base "trimmed" p_trimmed 1 (spTrim K)) : FnOk P w K mg base CX0 2 f fd p_ro (spDiv K) := by
  refine F.ok sc_rdiv (fun vs H Q E h => ?_) (fun cdv A outer s H vs Q E hr h => ?_)
  · obtain ⟨_, _, _, _, _, rfl, _⟩ := h
    rfl
  · obtain ⟨va, vb, a, o, S, rfl, ⟨ta, rfl, sa⟩, ⟨tb, rfl, sb⟩, DK, q⟩ := h
    refine ⟨_, (pss_cons (ps_set (i := 2) sc_rdiv.nd rfl (Or.inl rfl) (pe_callTy call_list_of (by rfl) T.list PyProof.Rows.boot_list (pa_cons (pv 0) pa_nil)))
      (pss_cons (ps_set (i := 3) sc_rdiv.nd rfl (Or.inl rfl) (pe_op op_rep (pe_lst (pa_cons pe_int pa_nil)) (pe_callB (call_max2 rfl) (by rfl) T.max PyProof.Rows.boot_max (pa_cons pe_int (pa_cons (pe_op op_add (pe_op op_sub (pe_callB (r := rLen K) len_seq (by rfl) T.len PySem.boot_len (pa_cons (pv 0) pa_nil)) (pe_callB (r := rLen K) len_seq (by rfl) T.len PySem.boot_len (pa_cons (pv 1) pa_nil))) pe_int) pa_nil)))))
      (pss_cons (ps_while PassesOwn.never (pt_cmpR op_ge (pe_callB (r := rLen K) len_seq (by rfl) T.len PySem.boot_len (pa_cons (pv 2) pa_nil)) (pe_callB (r := rLen K) len_seq (by rfl) T.len PySem.boot_len (pa_cons (pv 1) pa_nil)) (nomark _)) (pss_cons (ps_set (i := 4) sc_rdiv.nd rfl (Or.inl rfl) (pe_callBfun cr_gcd (by rfl) mG (pa_cons (pe_ix (r := rIxL K) ix_list (pv 2) (pe_un un_neg pe_int) (fun _ _ => rfl)) (pa_cons (pe_ix (r := rIxT K) ix_tup (pv 1) (pe_un un_neg pe_int) (fun _ _ => rfl)) pa_nil))))
      (pss_cons (ps_set (i := 5) sc_rdiv.nd rfl (Or.inr rfl) (pe_op op_fdivW (pe_callB call_abs (by rfl) T.abs PyProof.Rows.boot_abs (pa_cons (pe_ix (r := rIxT K) ix_tup (pv 1) (pe_un un_neg pe_int) (fun _ _ => rfl)) pa_nil)) (pv 4)))
      (pss_cons (ps_set (i := 6) sc_rdiv.nd rfl (Or.inl rfl) (pe_op op_mulW (pe_op op_fdivW (pe_ix (r := rIxL K) ix_list (pv 2) (pe_un un_neg pe_int) (fun _ _ => rfl)) (pv 4)) (pe_has H_sign_of (hr.mono (by decide)) (by rfl) (pa_cons (pe_ix (r := rIxT K) ix_tup (pv 1) (pe_un un_neg pe_int) (fun _ _ => rfl)) pa_nil))))
      (pss_cons (ps_set (i := 7) sc_rdiv.nd rfl (Or.inl rfl) (pe_op op_sub (pe_callB (r := rLen K) len_seq (by rfl) T.len PySem.boot_len (pa_cons (pv 2) pa_nil)) (pe_callB (r := rLen K) len_seq (by rfl) T.len PySem.boot_len (pa_cons (pv 1) pa_nil))))
      (pss_cons (ps_setLc (i := 3) (own := [("n", 9)]) (g := gName 9) (tt := tYes) rfl sc_rdiv.nd rfl rfl (sw_true rfl rfl rfl (by decide +kernel)) (pi_list (pv 3)) (blkOk_by (N := n_rdiv) (sc := defScope sRDiv) (by decide +kernel)) (fun _ _ _ _ _ => pg_name (i := 9) sc_rdiv.nd rfl (Or.inl rfl)) (fun _ _ _ _ _ => pts_nil) (fun _ _ _ _ _ => (pe_op op_mulW (pv 9) (pv 5))))
      (pss_cons (ps_asg (pe_op op_add (pe_ix (r := rIxL K) ix_list (pv 3) (pv 7) (fun _ _ => rfl)) (pv 6)) (pg_sub (pv 3) (pv 7) set_list (fun _ => rfl)))
      (pss_cons (ps_setLc (i := 2) (own := [("n", 9)]) (g := gName 9) (tt := tYes) rfl sc_rdiv.nd rfl rfl (sw_true rfl rfl rfl (by decide +kernel)) (pi_list (pv 2)) (blkOk_by (N := n_rdiv) (sc := defScope sRDiv) (by decide +kernel)) (fun _ _ _ _ _ => pg_name (i := 9) sc_rdiv.nd rfl (Or.inl rfl)) (fun _ _ _ _ _ => pts_nil) (fun _ _ _ _ _ => (pe_op op_mulW (pv 9) (pv 5))))
      (pss_cons (ps_for PassesOwn.never rfl (pi_enumT (by rfl) T.enumerate (pa_cons (pv 1) pa_nil)) (pg_tup rfl (pgs_cons (pg_name (i := 8) sc_rdiv.nd rfl (Or.inl rfl)) (pgs_cons (pg_name (i := 9) sc_rdiv.nd rfl (Or.inl rfl)) pgs_nil))) (pss_one (ps_asg (pe_op op_sub (pe_ix (r := rIxL K) ix_list (pv 2) (pe_op op_add (pv 7) (pv 8)) (fun _ _ => rfl)) (pe_op op_mulW (pv 6) (pv 9))) (pg_sub (pv 2) (pe_op op_add (pv 7) (pv 8)) set_list (fun _ => rfl)))))
      (pss_one (ps_set (i := 2) sc_rdiv.nd rfl (Or.inl rfl) (pe_callTy call_list_of (by rfl) T.list PyProof.Rows.boot_list (pa_cons (pe_has H_trimmed (hr.mono (by decide)) (by rfl) (pa_cons (pv 2) pa_nil)) pa_nil)))))))))))))
      (pss_one (ps_ret (pe_tup (pa_cons (pe_has H_trimmed (hr.mono (by decide)) (by rfl) (pa_cons (pv 3) pa_nil)) (pa_cons (pe_callTy call_tuple_of (by rfl) T.tuple PyProof.Rows.boot_tuple (pa_cons (pv 2) pa_nil)) pa_nil)))))))), ?_⟩
    have la := DK.la
    have lo := DK.lo
    have h0 : 0 < o.length := List.length_pos_iff.mpr DK.ho
    refine ⟨_, rfl, ta, _, rfl, Or.inr sa, fun R hR => ?_⟩
    have sR := same_new (p := R) (o := HO.lst (a.map V.int)) hR
    have aR : (upd H R (.lst (a.map V.int))) R = some (.lst (a.map V.int)) := upd_same
    generalize upd H R (.lst (a.map V.int)) = H1 at sR aR ⊢
    refine ⟨by show 1 ≤ sizeLine; decide, fun l hl => ?_⟩
    refine ⟨_, rfl, ta, _, rfl, Or.inr (same_sqT (sR.trans (same_new hl)) sa), _, rfl, tb, _, rfl, Or.inr (same_sqT (sR.trans (same_new hl)) sb), _, _, rfl, rfl, _, _, rfl, rfl, _, _, rfl, l, _, _, rfl, rfl, upd_same, ?_⟩
    rw [List.length_map, List.length_map]
    obtain ⟨N, eN⟩ : ∃ N, N = a.length + 1 - o.length := ⟨_, rfl⟩
    have et : (if ((a.length : Int) - (o.length : Int) + 1) > 0 then ((a.length : Int) - (o.length : Int) + 1) else 0) = (N : Int) := by
      split <;> omega
    rw [et]
    refine ⟨by omega, by omega, ?_, fun D hD => ?_⟩
    · show 1 * N ≤ sizeLine
      exact Nat.le_trans (by omega : 1 * N ≤ 200) (by decide)
    have sl := same_new (p := l) (o := HO.lst [V.int 0]) hl
    rw [Int.toNat_natCast, zeros_lst]
    have I0 : DivAt H a o S R D a (lst N fun _ => 0) (upd (upd H1 l (.lst [V.int 0])) D (.lst ((lst N fun _ => 0).map V.int))) := by
      refine ⟨sR.trans (sl.trans (same_new hD)), (sl.trans (same_new hD)) _ _ aR, upd_same, DK.rem, Nat.le_refl _, by rw [lst_len]; omega, by rw [lst_len]; omega, fun z hz => Nat.le_trans (DK.big z hz) (lim_big _), fun z hz => ?_⟩
      unfold lst at hz
      obtain ⟨_, _, rfl⟩ := List.mem_map.mp hz
      exact Nat.zero_le _
    generalize upd (upd H1 l (.lst [V.int 0])) D (.lst ((lst N fun _ => 0).map V.int)) = H2 at I0 ⊢
    refine ⟨fun m σ H' => ∃ (R D : Addr) (r qs : List Int) (x4 x5 x6 x7 x8 x9 : Option V), m = r.length ∧ σ = [some (.ref ta), some (.ref tb), some (.ref R), some (.ref D), x4, x5, x6, x7, x8, x9] ∧ DivAt H a o S R D r qs H', ⟨a.length, R, D, a, _, none, none, none, none, none, none, rfl, rfl, I0⟩, ?_⟩
    clear I0 hD sl et eN N hl aR sR hR H1 H2 R D l
    rintro m σ H0 ⟨R, D, r, qs, x4, x5, x6, x7, x8, x9, rfl, rfl, I⟩
    refine ⟨_, rfl, R, _, rfl, Or.inl (SqL.of I.rest), _, rfl, tb, _, rfl, Or.inr (same_sqT I.same sb), _, _, rfl, rfl, _, rfl, ?_⟩
    rw [List.length_map, List.length_map]
    refine ite2 (fun c
          => ?_) (fun c => ?_)
    · have hlen : o.length ≤ r.length := by have := of_decide_eq_true c; omega
      have hrn : r ≠ [] := fun z => by rw [z] at hlen; exact absurd hlen (Nat.not_le_of_lt h0)
      have h8 : ∀ z ∈ o, z.natAbs ≤ 8 := DK.h8.elim id fun z => absurd z (by have := I.few; omega)
      have lr : r.length ≤ 13 := Nat.le_trans I.few la
      obtain ⟨rl, erl⟩ : ∃ x, x = r.getD (r.length - 1) 0 := ⟨_, rfl⟩
      obtain ⟨ol, eol⟩ : ∃ x, x = o.getD (o.length - 1) 0 := ⟨_, rfl⟩
      have ol0 : ol ≠ 0 := by rw [eol]; exact last_ne DK.hol DK.ho
      have al := at_last hrn
      have ao := at_last DK.ho
      rw [← erl] at al
      rw [← eol] at ao
      have brl : rl.natAbs ≤ 2 ^ 132 := by rw [erl]; exact Nat.le_trans (getD_le' I.br _) (lim_less _)
      have bol : ol.natAbs ≤ 8 := by rw [eol]; exact getD_le' h8 _
      have hg : 0 < Nat.gcd rl.natAbs ol.natAbs := Nat.gcd_pos_of_pos_right _ (by omega)
      have gb : Nat.gcd rl.natAbs ol.natAbs < 2 ^ 9000 := Nat.lt_of_le_of_lt (Nat.le_trans (Nat.gcd_le_right _ (by omega)) bol) (small9 (by decide))
      have cd : ∀ x : Int, CDivW x ((Nat.gcd rl.natAbs ol.natAbs : Nat) : Int) := fun x => wide_div (b := 9000) (by omega) (by simpa using gb) (by decide) (by decide)
      refine ⟨fun σ H' => ∃ (R D : Addr) (r' qs : List Int) (x4 x5 x6 x7 x8 x9 : Option V), r'.length < r.length ∧ σ = [some (.ref ta), some (.ref tb), some (.ref R), some (.ref D), x4, x5, x6, x7, x8, x9] ∧ DivAt H a o S R D r' qs H', fun σ' H' h => ?_, ?_⟩
      · obtain ⟨R, D, r', qs, x4, x5, x6, x7, x8, x9, h1, h2, h3⟩ := h
        exact ⟨r'.length, h1, R, D, r', qs, x4, x5, x6, x7, x8, x9, rfl, h2, h3⟩
      have sb0 := same_sqT I.same sb
      refine ⟨_, rfl, _, rfl, R, _, -1, V.int rl, rfl, rfl, SqL.of I.rest, al, _, rfl, _, rfl, tb, _, -1, V.int ol, rfl, rfl, sb0, ao, rl, ol, rfl, ?_⟩
      refine ⟨_, rfl, _, rfl, tb, _, -1, V.int ol, rfl, rfl, sb0, ao, ol, rfl, _, rfl, _, _, rfl, rfl, cd _, ?_⟩
      dsimp only
      rw [abs_nat ol]
      have bS : (stS rl ol).natAbs ≤ rl.natAbs := (st_le ol0 bol).2
      have bM : (stM rl ol).natAbs ≤ 8 := (st_le ol0 bol).1
      have eS : rl / ((Nat.gcd rl.natAbs ol.natAbs : Nat) : Int) * sgn ol = stS rl ol := by rw [sgn_sign]; rfl
      have bdiv : (rl / ((Nat.gcd rl.natAbs ol.natAbs : Nat) : Int)).natAbs < 2 ^ 200 := by
        refine Nat.lt_of_le_of_lt (Nat.le_trans ?_ brl) (Nat.pow_lt_pow_right (by decide) (by decide))
        obtain ⟨p, hp⟩ : ∃ p : Int, rl = (Nat.gcd rl.natAbs ol.natAbs : Nat) * p := Int.ofNat_dvd_left.mpr (Nat.gcd_dvd_left _ _)
        generalize Nat.gcd rl.natAbs ol.natAbs = g at hp hg ⊢
        rw [hp, Int.mul_ediv_cancel_left _ (by omega), Int.natAbs_mul, Int.natAbs_natCast]
        exact Nat.le_mul_of_pos_left _ hg
      have bsg : (sgn ol).natAbs < 2 ^ 1 := by
        unfold sgn
        split
        · decide
        · split <;> decide
      refine ⟨_, rfl, _, rfl, R, _, -1, V.int rl, rfl, rfl, SqL.of I.rest, al, _, rfl, _, _, rfl, rfl, cd _, _, rfl, _, rfl, tb, _, -1, V.int ol, rfl, rfl, sb0, ao, ol, rfl, _, _, rfl, rfl, wide_mul (a := 200) (b := 1) bdiv bsg (by decide) (by decide) (by decide), ?_⟩
      dsimp only
      rw [eS]
      have eM : ((ol.natAbs : Nat) : Int) / ((Nat.gcd rl.natAbs ol.natAbs : Nat) : Int) = stM rl ol := rfl
      rw [eM]
      refine ⟨_, rfl, R, _, rfl, Or.inl (SqL.of I.rest), _, rfl, tb, _, rfl, Or.inr sb0, _, _, rfl, rfl, ?_⟩
      rw [List.length_map, List.length_map]
      obtain ⟨p, hp⟩ : ∃ p : Nat, p = r.length - o.length := ⟨_, rfl⟩
      have ep : (r.length : Int) - (o.length : Int) = (p : Int) := by omega
      dsimp only
      rw [ep]
      have hM : (stM rl ol).natAbs < 2 ^ 4 := Nat.lt_of_le_of_lt bM (by decide)
      have b20 : ∀ {l : List Int}, (∀ z ∈ l, z.natAbs ≤ lim r.length) → ∀ z ∈ l, z.natAbs < 2 ^ 200 := fun h z hz => Nat.lt_of_le_of_lt (Nat.le_trans (h z hz) (lim_less _)) (Nat.pow_lt_pow_right (by decide) (by decide))
      -- the quotient so far
      refine seq_of (asg_of ?_)
      refine lcL (K := K) (a := D) (xs := qs.map V.int) (fun i y => y = .int (qs.getD i 0 * stM rl ol)) (fun R r => ⟨_, rfl, r⟩) (SqL.of I.quot) (by rw [List.length_map]; have := I.lq; omega) (fun x => rfl) (fun i x H3 hi sm Q' q' => ?_) (fun D1 ys H2 hD1 s2 hy e1 e2 => ?_)
      · obtain ⟨z, hz, rfl⟩ := map_at hi
        refine ⟨_, rfl, _, rfl, _, _, rfl, rfl, wide_mul (a := 200) (b := 4) (b20 I.bq z (List.mem_of_getElem? hz)) hM (by decide) (by decide) (by decide), q' _ _ ?_ (Same.refl _)⟩
        rw [List.getD_eq_getElem?_getD, hz]
        rfl
      have ey := vals_map (e1.trans (List.length_map ..)) e2
      rw [ey] at hy
      have F1 : Found H0 D1 qs.length (fun i => qs.getD i 0 * stM rl ol) H2 := ⟨hD1, s2, hy⟩
      clear ey e1 e2 hy s2
      have hpq : p < qs.length := by have := I.many; have := I.few; omega
      refine ⟨_, rfl, _, rfl, D1, _, _, V.int (qs.getD p 0 * stM rl ol), rfl, rfl, SqL.of F1.held, atI_nat (by rw [List.getElem?_map, lst_at hpq]; rfl), _, rfl, _, _, rfl, rfl, _, rfl, _, rfl, D1, _, _, p, rfl, rfl, F1.held, ?_, ?_⟩
      · rw [List.length_map, lst_len]
        unfold ixN
        rw [if_pos (by omega),
              if_pos (by omega)]
        rfl
      have F2 := F1.put (p := p) (v := qs.getD p 0 * stM rl ol + stS rl ol) (g := fun i => qs.getD i 0 * stM rl ol + if i = p then stS rl ol else 0) (fun i hi => by
        by_cases e : i = p
        · subst e
          rw [if_pos rfl, if_pos rfl]
        · rw [if_neg e, if_neg e, Int.add_zero])
      generalize upd H2 D1 (.lst (((lst qs.length fun i => qs.getD i 0 * stM rl ol).map V.int).set p (.int (qs.getD p 0 * stM rl ol + stS rl ol)))) = H3 at F2 ⊢
      -- the rest so far
      have hR3 := F2.same _ _ I.rest
      dsimp only
      refine seq_of (asg_of ?_)
      refine lcL (K := K) (a := R) (xs := r.map V.int) (fun i y => y = .int (r.getD i 0 * stM rl ol)) (fun R r => ⟨_, rfl, r⟩) (SqL.of hR3) (by rw [List.length_map]; omega) (fun x => rfl) (fun i x H3 hi sm Q' q' => ?_) (fun R1 ys H4 hR1 s4 hy e1 e2 => ?_)
      · obtain ⟨z, hz, rfl⟩ := map_at hi
        refine ⟨_, rfl, _, rfl, _, _, rfl, rfl, wide_mul (a := 200) (b := 4) (b20 I.br z (List.mem_of_getElem? hz)) hM (by decide) (by decide) (by decide), q' _ _ ?_ (Same.refl _)⟩
        rw [List.getD_eq_getElem?_getD, hz]
        rfl
      have ey := vals_map (e1.trans (List.length_map ..)) e2
      rw [ey] at hy
      have G1 : Found H3 R1 r.length (fun i => r.getD i 0 * stM rl ol) H4 := ⟨hR1, s4, hy⟩
      clear ey e1 e2 hy s4
      have sH3 := I.same.trans F2.same
      refine ⟨_, rfl, tb, _, rfl, same_sqT (sH3.trans G1.same) sb, ?_⟩
      refine for_it (walk_enumT (K := K) (a := tb) (xs := o.map V.int)) (fun j σ H' => ∃ z t : Option V, σ = [some (.ref ta), some (.ref tb), some (.ref R1), some (.ref D1), some (.int (Nat.gcd rl.natAbs ol.natAbs : Nat)), some (.int (stM rl ol)), some (.int (stS rl ol)), some (.int (p : Nat)), z, t] ∧ Found H3 R1 r.length (rowAdd (fun i => r.getD i 0 * stM rl ol) p (-stS rl ol) o j) H') ⟨x8, x9, rfl, by rw [rowAdd_zero]; exact G1⟩ (fun i σ H' _ h => ?_) (fun j v σ H5 H' hj hP hY => ?_) (fun σ H' hP => ?_)
      · obtain ⟨_, _, _, f⟩ := h
        exact same_sqT (sH3.trans f.same) sb
      · obtain ⟨z, t, rfl, G2⟩ := hP
        obtain ⟨T1, n', rfl, hT, rfl, hn0⟩ := hY
        obtain ⟨n, hn, rfl⟩ := map_at hn0
        rw [List.length_map] at hj
        have hpj : p + j < r.length := by omega
        have hnb := h8 n (List.mem_of_getElem? hn)
        have G3 := G2.pair (o := HO.tup [V.int (j : Nat), V.int n]) hT
        refine pair_in (K := K) upd_same ?_
        generalize upd H5 T1 (.tup [V.int (j : Nat), V.int n]) = H6 at G3 ⊢
        have e1 : ((p : Nat) : Int) + ((j : Nat) : Int) = ((p + j : Nat) : Int) := by omega
        refine ⟨_, rfl, _, rfl, _, rfl, _, _, rfl, rfl, R1, _, _, V.int (rowAdd (fun i => r.getD i 0 * stM rl ol) p (-stS rl ol) o j (p + j)), rfl, rfl, SqL.of G3.held, ?_, _, rfl, _, rfl, _, _, rfl, rfl, wide_mul (a := 200) (b := 4) (Nat.lt_of_le_of_lt (Nat.le_trans bS brl) (Nat.pow_lt_pow_right (by decide) (by decide))) (Nat.lt_of_le_of_lt hnb (by decide)) (by decide) (by decide) (by decide), _, _, rfl, rfl, ?_⟩
        · rw [e1]
          exact atI_nat (by rw [List.getElem?_map, lst_at hpj]; rfl)
        · refine ⟨_, rfl, _, rfl, _, rfl, _, _, rfl, rfl, R1, _, _, p + j, rfl, rfl, G3.held, ?_, ⟨_, _, rfl, G3.put fun i hi => ?_⟩⟩
          · rw [e1, List.length_map, lst_len]
            unfold ixN
            rw [if_pos (by omega),
                  if_pos (by omega)]
            rfl
          · rw [rowAdd_step, List.getD_eq_getElem?_getD, hn]
            split
            · show _ + -stS rl ol * n = _ - stS rl ol * n
              rw [Int.neg_mul]
              rfl
            · rfl
      · obtain ⟨z, t, rfl, G2⟩ := hP
        rw [List.length_map] at G2
        refine ⟨_, rfl, R1, _, rfl, Or.inl (SqL.of G2.held), by rw [lst_len]; omega, fun v5 H5 s5 tp => ?_⟩
        have estep : trimL (lst r.length (rowAdd (fun i => r.getD i 0 * stM rl ol) p (-stS rl ol) o o.length)) = stepL o r := by
          unfold stepL
          rw [← erl, ← eol, ← hp]
        rw [estep] at tp
        obtain ⟨t5, rfl, st5⟩ := tp
        refine ⟨t5, _, rfl, Or.inr st5, fun R2 hR2 => ?_⟩
        have hless := step_less DK.ho DK.hol hlen
        have sall := s5.trans (same_new (p := R2) (o := HO.lst ((stepL o r).map V.int)) hR2)
        refine ⟨R2, D1, stepL o r, lst qs.length fun i => qs.getD i 0 * stM rl ol + if i = p then stS rl ol else 0, _, _, _, _, _, _, hless, rfl, ⟨sH3.trans (G2.same.trans sall), upd_same, sall _ _ (G2.same _ _ F2.held), step_rem I.rem DK.ho DK.hol hlen, by have := I.few; omega, by rw [lst_len]; exact I.many, by rw [lst_len]; exact I.lq, fun z hz => ?_, fun z hz => ?_⟩⟩
        · exact Nat.le_trans (step_mem DK.ho DK.hol hlen h8 I.br z hz) (lim_step hless lr)
        · unfold lst at hz
          obtain ⟨i, _, rfl⟩ := List.mem_map.mp hz
          refine Nat.le_trans ?_ (lim_step hless lr)
          have c1 : (qs.getD i 0 * stM rl ol).natAbs ≤ lim r.length * 8 := by
            rw [Int.natAbs_mul]
            exact Nat.mul_le_mul (getD_le' I.bq _) bM
          have c2 : (if i = p then stS rl ol else 0).natAbs ≤ lim r.length := by
            split
            · refine Nat.le_trans bS ?_
              rw [erl]
              exact getD_le' I.br _
            · exact Nat.zero_le _
          omega
    · have hlen : r.length < o.length := Nat.lt_of_not_le fun z => c (decide_eq_true (by omega))
      refine ⟨_, rfl, D, qs, rfl, Or.inl (SqL.of I.quot), by have := I.lq; omega, fun p H1 s1 tp => ⟨_, rfl, R, _, rfl, Or.inl ⟨SqL.of (s1 _ _ I.rest), fun l hl => ⟨by show 2 ≤ sizeLine; decide, fun t ht => ?_⟩⟩⟩⟩
      refine q t p l r _ (I.same.trans (s1.trans ((same_new hl).trans (same_new ht)))) (SqT.of upd_same) (same_sqT (same_new ht) (SqT.of upd_same)) I.rem hlen (fun z hz => ?_)
      exact Nat.lt_of_le_of_lt (Nat.le_trans (I.br z hz) (lim_less _)) (Nat.pow_lt_pow_right (by decide) (by decide))
theorem DivOk.ra {a o S : List Int} (h : DivOk a o S) : RowOk a := ⟨h.la, lastOk_of h.rem.tr, fun n hn => Nat.lt_of_le_of_lt (h.big n hn) (Nat.pow_lt_pow_right (by decide) (by decide))⟩
theorem DivOk.ro {a o S : List Int} (h : DivOk a o S) : RowOk o := ⟨h.lo, lastOk_of h.hol, fun n hn => Nat.lt_of_le_of_lt (h.bo n hn) (Nat.pow_lt_pow_right (by decide) (by decide))⟩
theorem sc_rrem : FnScope p_ro p_ro (defScope sRRem) := ⟨rfl, rfl, rfl, by decide +kernel, rfl, by decide +kernel, by decide +kernel⟩
theorem ok_rrem {f : Addr} {fd : FuncData} (F : Fun K "row_remainder" "row_remainder" sRRem f fd) (H_row_shortest : Has P w K mg base "row_shortest" p_r 2 (spRow1 K shortL)) (H_row_division : Has P w K mg base "row_division" p_ro 2 (spDiv K)) : FnOk P w K mg base CX0 3 f fd p_ro (spRemn K) := by
  refine F.ok sc_rrem (fun vs H Q E h => ?_) (fun cdv A outer s H vs Q E hr h => ?_)
  · obtain ⟨_, _, _, _, _, rfl, _⟩ := h
    rfl
  · obtain ⟨va, vb, a, o, S, rfl, ta, tb, DK, q⟩ := h
    refine ⟨_, (pss_one (ps_ret (pe_has H_row_shortest (hr.mono (by decide)) (by rfl) (pa_cons (pe_ix (r := rIxT K) ix_tup (pe_has H_row_division (hr.mono (by decide)) (by rfl) (pa_cons (pv 0) (pa_cons (pv 1) pa_nil))) pe_int (fun _ _ => rfl)) pa_nil)))), ?_⟩
    refine ⟨_, rfl, _, rfl, va, vb, a, o, S, rfl, ta, tb, DK, fun t q' tr r H1 s1 st str R hlt hb => ⟨t, _, 1, .ref tr, rfl, rfl, st, rfl, _, r, rfl, ⟨tr, rfl, str⟩, ⟨by have := DK.lo; omega, lastOk_of R.tr, hb⟩, fun p H2 s2 tp => q p H2 (s1.trans s2) ?_⟩⟩
    rw [← R.done DK.ho DK.hol DK.hS DK.hSl hlt]
    exact tp
theorem sc_remn : FnScope p_ro p_ro (defScope sRemn) := ⟨rfl, rfl, rfl, by decide +kernel, rfl, by decide +kernel, by decide +kernel⟩
theorem ok_remn {f : Addr} {fd : FuncData} (F : Fun K "remainder" "remainder" sRemn f fd) (H_check_row : Has P w K mg base "check_row" n_value 5 (spChk K isRw)) (H_row_remainder : Has P w K mg base "row_remainder" p_ro 3 (spRemn K)) : FnOk P w K mg base CX0 6 f fd p_ro (spRemn K) := by
  refine F.ok sc_remn (fun vs H Q E h => ?_) (fun cdv A outer s H vs Q E hr h => ?_)
  · obtain ⟨_, _, _, _, _, rfl, _⟩ := h
    rfl
  · obtain ⟨va, vb, a, o, S, rfl, ta, tb, DK, q⟩ := h
    refine ⟨_, (pss_cons (ps_expr (pe_has H_check_row (hr.mono (by decide)) (by rfl) (pa_cons (pv 0) pa_nil)))
      (pss_cons (ps_expr (pe_has H_check_row (hr.mono (by decide)) (by rfl) (pa_cons (pv 1) pa_nil)))
      (pss_cons (ps_if (pt_not (pt_truth (pv 1) (fun _ => rfl))) (pss_one ps_never) pss_nil)
      (pss_one (ps_ret (pe_has H_row_remainder (hr.mono (by decide)) (by rfl) (pa_cons (pv 0) (pa_cons (pv 1) pa_nil)))))))), ?_⟩
    refine ⟨_, rfl, _, a, rfl, ta, DK.ra.l3, DK.ra.b9, DK.ra.rw, fun H1 s1 => ⟨_, rfl, _, o, rfl, tb.same s1, DK.ro.l3, DK.ro.b9, DK.ro.rw, fun H2 s2 => ?_⟩⟩
    have s12 := s1.trans s2
    obtain ⟨rb, rfl, sb⟩ := tb.same s12
    refine ⟨_, rfl, !(o.map V.int).isEmpty, Or.inr (Or.inl ⟨_, sb, rfl⟩), ?_⟩
    have e : (!(o.map V.int).isEmpty) = true := by
      cases h : o with
      | nil => exact absurd h DK.ho
      | cons x r => rfl
    rw [e]
    refine iteF ?_
    exact ⟨_, rfl, _, rfl, va, _, a, o, S, rfl, ta.same s12, ⟨rb, rfl, sb⟩, DK, fun p H3 s3 tp => q p H3 (s12.trans s3) tp⟩
end
end K5

namespace K5
open PySem L2 Ur
structure BigOk (ds : List PyData) (n : Nat) : Prop where
  ls : PyData.leavesShortAll 200 ds = true
  wt : PyData.weightAll ds ≤ n
  sh : PyData.showableAll ds = true
  hd : PyData.hasDictAll ds = false
  dp : PyData.depthAll ds ≤ 1
theorem log255 {n : Nat} (h : n ≤ 2 ^ 255) : n.log2 + 1 ≤ 257 := by
  by_cases z : n = 0
  · subst z; decide
  · have : n.log2 < 256 := (Nat.log2_lt z).mpr (Nat.lt_of_le_of_lt h (Nat.pow_lt_pow_right (by decide) (by decide)))
    omega
theorem shown200 {n : Int} (h : n.natAbs ≤ 2 ^ 255) : (PyData.shown (.int n)).length ≤ 200 := by
  have e := int_text_length_le10 (a := n) (k := 199) (by decide) (Nat.lt_of_le_of_lt h (by decide))
  show (Str.ofString (toString n)).length ≤ 200
  rw [ofString_length]
  exact e
theorem bints_ok : ∀ {ns : List Int}, (∀ n ∈ ns, n.natAbs ≤ 2 ^ 255) → BigOk (ns.map PyData.int) (258 * ns.length)
  | [], _ => ⟨rfl, Nat.le_refl _, rfl, rfl, Nat.zero_le _⟩
  | n :: r, h => by
    have hn := h n List.mem_cons_self
    obtain ⟨a, b, c, d, e⟩ := bints_ok (ns := r) fun m hm => h m (List.mem_cons_of_mem _ hm)
    have l := log255 hn
    refine ⟨?_, ?_, ?_, ?_, ?_⟩
    · show (decide ((PyData.shown (.int n)).length ≤ 200) && PyData.leavesShortAll 200 (r.map PyData.int)) = true
      rw [a, decide_eq_true (shown200 hn)]
      rfl
    · show (if n == 0 then 0 else n.natAbs.log2 + 1) + 1 + PyData.weightAll (r.map PyData.int) ≤ 258 * (r.length + 1)
      split <;> omega
    · show (decide (n.natAbs.log2 < 1920) && PyData.showableAll (r.map PyData.int)) = true
      rw [c, decide_eq_true (by omega)]
      rfl
    · show (false || PyData.hasDictAll (r.map PyData.int)) = false
      rw [d]
      rfl
    · show max 0 (PyData.depthAll (r.map PyData.int)) ≤ 1
      omega
theorem btups_ok : ∀ {nss : List (List Int)}, (∀ ns ∈ nss, ns.length ≤ 13 ∧ ∀ n ∈ ns, n.natAbs ≤ 2 ^ 255) → BigOk (nss.map tupD) (3400 * nss.length)
  | [], _ => ⟨rfl, Nat.le_refl _, rfl, rfl, Nat.zero_le _⟩
  | ns :: r, h => by
    obtain ⟨hl, hn⟩ := h ns List.mem_cons_self
    obtain ⟨a, b, c, d, e⟩ := btups_ok (nss := r) fun m hm => h m (List.mem_cons_of_mem _ hm)
    obtain ⟨a', b', c', d', e'⟩ := bints_ok hn
    refine ⟨?_, ?_, ?_, ?_, ?_⟩
    · show (PyData.leavesShortAll 200 (ns.map PyData.int) && PyData.leavesShortAll 200 (r.map tupD)) = true
      rw [a, a']
      rfl
    · show PyData.weightAll (ns.map PyData.int) + 1 + PyData.weightAll (r.map tupD) ≤ 3400 * (r.length + 1)
      omega
    · show (PyData.showableAll (ns.map PyData.int) && PyData.showableAll (r.map tupD)) = true
      rw [c, c']
      rfl
    · show (PyData.hasDictAll (ns.map PyData.int) || PyData.hasDictAll (r.map tupD)) = false
      rw [d, d']
      rfl
    · show max (PyData.depthAll (ns.map PyData.int) + 1) (PyData.depthAll (r.map tupD)) ≤ 1
      have := depth_ints ns
      omega
theorem brep_facts {ds : List PyData} {n : Nat} (o : BigOk ds n) (hn : n ≤ 80000) : (PyData.list ds).showable = true ∧ (PyData.list ds).hasDict = false ∧ (PyData.list ds).shown.length ≤ sizeLine ∧ (PyData.list ds).depth ≤ 60 := by
  refine ⟨o.sh, o.hd, ?_, by show PyData.depthAll ds + 1 ≤ 60; have := o.dp; omega⟩
  have h := PyData.shown_le 200 (by decide) (.list ds) o.ls
  have hw : (PyData.list ds).weight ≤ n := o.wt
  exact Nat.le_trans h (Nat.le_trans (by omega : (200 + 2) * (PyData.list ds).weight + 200 ≤ 16200000) (by decide))
/-- the row that is divided by -/
structure OOk (o : List Int) (k : Nat) : Prop where
  len : o.length = k + 1
  few : k ≤ 4
  last : o.getLast? ≠ some 0
  b8 : ∀ z ∈ o, z.natAbs ≤ 8
theorem OOk.ne {o : List Int} {k : Nat} (h : OOk o k) : o ≠ [] := fun e => by
  have := h.len
  rw [e] at this
  exact absurd this (Nat.succ_ne_zero k).symm
theorem OOk.mk_snoc {ns : List Int} {z : Int} {k : Nat} (hl : ns.length = k) (hk : k ≤ 4) (hb : ∀ x ∈ ns, x.natAbs ≤ 8) (hz : z ≠ 0) (h8 : z.natAbs ≤ 8) : OOk (ns ++ [z]) k := by
  refine ⟨by rw [List.length_append, hl]; rfl, hk, ?_, fun x hx => ?_⟩
  · rw [List.getLast?_append]
    intro h
    exact hz (Option.some.inj h)
  · rcases List.mem_append.mp hx with h | h
    · exact hb x h
    · rw [List.mem_singleton.mp h]
      exact h8
theorem OOk.ro {o : List Int} {k : Nat} (h : OOk o k) : RowOk o := ⟨by have := h.len; have := h.few; omega, lastOk_of h.last, fun n hn => Nat.lt_of_le_of_lt (h.b8 n hn) (by decide)⟩
/-- the short row -/
structure SOk (S : List Int) (k : Nat) : Prop where
  len : S.length ≤ k
  last : S.getLast? ≠ some 0
  b : ∀ z ∈ S, z.natAbs ≤ 240
theorem SOk.ro {S : List Int} {k : Nat} (h : SOk S k) (hk : k ≤ 4) : RowOk S := ⟨by have := h.len; omega, lastOk_of h.last, fun n hn => Nat.lt_of_le_of_lt (h.b n hn) (by decide)⟩
theorem up80 {n m : Nat} (h : n ≤ m) (hm : m ≤ 2 ^ 80) : n ≤ 2 ^ 80 := Nat.le_trans h hm
/-- the row that is divided -/
def rowL (o c S : List Int) (s : Int) : List Int := mulL (trimL (addL (mulL o c) S)) [s]
theorem row_rem {o c S : List Int} {s : Int} (hs : 0 < s) : Rem o S (rowL o c S s) := by
  refine ⟨trim_last _, s, fun i => s * c.getD i 0, c.length, hs, fun i hi => ?_, fun i => ?_⟩
  · show s * c.getD i 0 = 0
    rw [getD_none hi, Int.mul_zero]
  · unfold rowL
    rw [mul_one_getD, trim_getD, add_getD, mul_getD, conv_scale]
    grind
theorem div_row {o c S : List Int} {s : Int} {k : Nat} (O : OOk o k) (hS : SOk S k) (hc : c.length ≤ 4) (bc : ∀ z ∈ c, z.natAbs ≤ 2 ^ 43) (hs : 0 < s) (bs : s.natAbs ≤ 2 ^ 20) : DivOk (rowL o c S s) o S ∧ (mulL o c).length ≤ 8 ∧ (trimL (addL (mulL o c) S)).length ≤ 8 ∧ (∀ z ∈ mulL o c, z.natAbs ≤ 2 ^ 49) ∧ (∀ z ∈ trimL (addL (mulL o c) S), z.natAbs ≤ 2 ^ 50) := by
  have l1 : (mulL o c).length ≤ 8 := Nat.le_trans mul_len (by have := O.len; have := O.few; omega)
  have l2 : (trimL (addL (mulL o c) S)).length ≤ 8 := Nat.le_trans (trim_len _) (by rw [addL_len]; have := hS.len; have := O.few; omega)
  have b1 : ∀ z ∈ mulL o c, z.natAbs ≤ 2 ^ 49 := fun z hz => by
    refine Nat.le_trans (mul_mem O.b8 bc z hz) (Nat.le_trans (Nat.mul_le_mul_right _ (by have := O.len; have := O.few; omega : o.length ≤ 5)) (by decide))
  have b2 : ∀ z ∈ trimL (addL (mulL o c) S), z.natAbs ≤ 2 ^ 50 := fun z hz => Nat.le_trans (add_mem b1 (fun z hz => Nat.le_trans (hS.b z hz) (by decide)) z (trim_mem hz)) (by decide)
  refine ⟨⟨O.ne, O.last, hS.last, by have := O.len; have := hS.len; omega, row_rem hs, ?_, by have := O.len; have := O.few; omega, fun z hz => ?_, fun z hz => Nat.le_trans (O.b8 z hz) (by decide), Or.inl O.b8⟩, l1, l2, b1, b2⟩
  · exact Nat.le_trans mul_len (by show _ + 1 - 1 ≤ 13; omega)
  · refine Nat.le_trans (mul_mem (C := 2 ^ 20) b2 (fun x hx => by rw [List.mem_singleton.mp hx]; exact bs) z hz) (Nat.le_trans (Nat.mul_le_mul_right _ l2) (by decide))
theorem Rem.self {o : List Int} (ho : o.getLast? ≠ some 0) : Rem o o o := ⟨ho, 1, fun _ => 0, 0, by decide, fun _ _ => rfl, fun i => by rw [conv_none (fun _ => rfl)]; grind⟩
theorem Rem.any {o S : List Int} (hS : S.getLast? ≠ some 0) : Rem o S S := ⟨hS, 1, fun _ => 0, 0, by decide, fun _ _ => rfl, fun i => by rw [conv_none (fun _ => rfl)]; grind⟩
theorem nil_last : ([] : List Int).getLast? ≠ some 0 := fun h => nomatch h
theorem div_short {o S : List Int} {k : Nat} (O : OOk o k) (hS : SOk S k) : DivOk S o S :=
  ⟨O.ne, O.last, hS.last, by have := O.len; have := hS.len; omega, .any hS.last, by have := hS.len; have := O.few; omega, by have := O.len; have := O.few; omega, fun z hz => Nat.le_trans (hS.b z hz) (by decide), fun z hz => Nat.le_trans (O.b8 z hz) (by decide), Or.inl O.b8⟩
theorem big_b {o : List Int} {s : Int} {k : Nat} (O : OOk o k) (bs : s.natAbs ≤ 2 ^ 20) : ∀ z ∈ mulL o [s], z.natAbs ≤ 2 ^ 30 := fun z hz => by
  refine Nat.le_trans (mul_mem (C := 2 ^ 20) O.b8 (fun x hx => by rw [List.mem_singleton.mp hx]; exact bs) z hz) (Nat.le_trans (Nat.mul_le_mul_right _ (by have := O.len; have := O.few; omega : o.length ≤ 5)) (by decide))
theorem big_len {o : List Int} {s : Int} (ho : o.getLast? ≠ some 0) (hs : s ≠ 0) : o.length ≤ (mulL o [s]).length := len_le_of ho fun i hi => by
  rw [mul_one_getD]
  intro h
  rcases Int.mul_eq_zero.mp h with h | h
  · exact hi h
  · exact hs h
theorem div_big {o S : List Int} {s : Int} {k : Nat} (O : OOk o k) (hS : SOk S k) (hs : s ≠ 0) (bs : s.natAbs ≤ 2 ^ 20) : DivOk S (mulL o [s]) S := by
  have hl := big_len O.last hs
  have h1 := O.len
  have h2 := hS.len
  have h3 := O.few
  refine ⟨fun e => ?_, trim_last _, hS.last, by omega, .any hS.last, by omega, Nat.le_trans mul_len (by show _ + 1 - 1 ≤ 13; omega), fun z hz => Nat.le_trans (hS.b z hz) (by decide), fun z hz => Nat.le_trans (big_b O bs z hz) (by decide), Or.inr (by omega)⟩
  rw [e] at hl
  have := List.length_nil (α := Int)
  omega
theorem div_self {o : List Int} {k : Nat} (O : OOk o k) : DivOk o o [] := by
  have h1 := O.len
  have h3 := O.few
  refine ⟨O.ne, O.last, nil_last, by show 0 < _; omega, ⟨O.last, 1, fun i => if i = 0 then 1 else 0, 1, by decide, fun i hi => if_neg (by omega), fun i => by rw [conv_one]; simp⟩, by omega, by omega, fun z hz => Nat.le_trans (O.b8 z hz) (by decide), fun z hz => Nat.le_trans (O.b8 z hz) (by decide), Or.inl O.b8⟩
theorem div_mult {o : List Int} {s : Int} {k : Nat} (O : OOk o k) (bs : s.natAbs ≤ 2 ^ 20) : DivOk (mulL o [s]) o [] := by
  have h1 := O.len
  have h3 := O.few
  refine ⟨O.ne, O.last, nil_last, by show 0 < _; omega, ⟨trim_last _, 1, fun i => if i = 0 then s else 0, 1, by decide, fun i hi => if_neg (by omega), fun i => by rw [conv_one, mul_one_getD]; simp⟩, Nat.le_trans mul_len (by show _ + 1 - 1 ≤ 13; omega), by omega, fun z hz => Nat.le_trans (big_b O bs z hz) (by decide), fun z hz => Nat.le_trans (O.b8 z hz) (by decide), Or.inl O.b8⟩
theorem div_none {o : List Int} {k : Nat} (O : OOk o k) : DivOk [] o [] := by
  have h1 := O.len
  have h3 := O.few
  exact ⟨O.ne, O.last, nil_last, by show 0 < _; omega, .any nil_last, by decide, by omega, fun z hz => (nomatch hz), fun z hz => Nat.le_trans (O.b8 z hz) (by decide), Or.inl O.b8⟩
section
variable {P : Program} {w : World} {K :
      PySem.W.Frag} {mg : Str → Option Value} {base : Heap}
abbrev n_law_right : List Str := ["_law_pot_here", "_law_many", "_law_other", "_law_short_here", "_law_third", "_law_size", "_law_row_here", "_law_told", "_law_due", "_law_turn"]
abbrev p_law_right : List Str := ["_law_pot_here"]
theorem sc_law_right : FnScope n_law_right p_law_right (defScope sRight) := ⟨rfl, rfl, rfl, by decide +kernel, rfl, by decide +kernel, by decide +kernel⟩
def spRight : Sp := fun vs H Q _ => ∃ u : Addr, vs = [.ref u] ∧ H u = some (PotO u) ∧ ∀ H' : Hp, Same H H' → Q (.bl true) H'
set_option
      maxHeartbeats 4000000 in
theorem ok_right {f : Addr} {fd : FuncData} (F : Fun K "_law_right" "_law_right" sRight f fd) (T : Bl mg) (H_law_draw : Has P w K mg base "_law_draw" pDraw 1 spDraw) (H_law_of : Has P w K mg base "_law_of" p_of 2 spOf) (H_law_from : Has P w K mg base "_law_from" p_from 2 spFrom) (H_law_row : Has P w K mg base "_law_row" p_lrow 3 (spLRow K))
    (H_law_trim : Has P w K mg base "_law_trim" p_some 1 (spLTrim K)) (H_law_added : Has P w K mg base "_law_added" p_lot 2 (spL2 K fun a b => trimL (addL a b))) (H_law_multiplied : Has P w K mg base "_law_multiplied" p_lot 2 (spMul K)) (H_law_short : Has P w K mg base "_law_short" p_some 2 (spRow1 K shortL))
    (H_remainder : Has P w K mg base "remainder" p_ro 6 (spRemn K)) (HR_remainder : HasR P w K mg base "remainder" p_ro 6 (spRemn K)) :
    FnG P w K mg base CX0 7 f fd p_law_right spRight := by
  refine okG F sc_law_right (fun vs H Q E h => ?_) (fun cdv A outer s H vs Q E hg hr h => ?_)
  · obtain ⟨u, rfl, _⟩ := h
    rfl
  · obtain ⟨u, rfl, hu0, q⟩ := h
    have hu : (A.deeper (PyProof.Rows.envOfC "_law_right" (defScope sRight) s.heap.objs.size f cdv)).units + 64 < cLine := hr.units
    refine ⟨_, (pss_cons (ps_set (i := 1) sc_law_right.nd rfl (Or.inl rfl) (pe_op op_add pe_int (pe_has H_law_draw (hr.mono (by decide)) (by rfl) (pa_cons (pv 0) (pa_cons pe_int pa_nil)))))
      (pss_mid (ps_set (i := 2) sc_law_right.nd rfl (Or.inl rfl) (pe_callTy call_tuple_of (by rfl) T.tuple PyProof.Rows.boot_tuple (pa_cons (pe_op op_cat (pe_lc (own := [("_law_turn", 9)]) (g := gName 9) (tt := tYes) rfl sc_law_right.nd (pi_range1 (by rfl) T.range (pa_cons (pe_op op_sub (pv 1) pe_int) pa_nil)) (blkOk_by (N := n_law_right) (sc := defScope sRight) (by decide +kernel)) (fun _ _ _ _ _ => pg_name (i := 9) sc_law_right.nd rfl (Or.inl rfl)) (fun _ _ _ _ _ => pts_nil) (fun _ _ _ _ _ => (pe_has H_law_from (hr.mono (by decide)) (by rfl) (pa_cons (pv 0) (pa_cons (pe_un un_neg pe_int) (pa_cons pe_int pa_nil)))))) (pe_lst (pa_cons (pe_has H_law_of (hr.mono (by decide)) (by rfl) (pa_cons (pv 0) (pa_cons (pe_lst (pa_cons pe_int (pa_cons pe_int (pa_cons (pe_un un_neg pe_int) (pa_cons (pe_un un_neg pe_int) (pa_cons pe_int pa_nil)))))) pa_nil))) pa_nil))) pa_nil)))
      (pss_mid (ps_set (i := 3) sc_law_right.nd rfl (Or.inl rfl) (pe_has H_law_trim (hr.mono (by decide)) (by rfl) (pa_cons (pe_lc (own := [("_law_turn", 9)]) (g := gName 9) (tt := tYes) rfl sc_law_right.nd (pi_range1 (by rfl) T.range (pa_cons (pe_op op_sub (pv 1) pe_int) pa_nil)) (blkOk_by (N := n_law_right) (sc := defScope sRight) (by decide +kernel)) (fun _ _ _ _ _ => pg_name (i := 9) sc_law_right.nd rfl (Or.inl rfl)) (fun _ _ _ _ _ => pts_nil) (fun _ _ _ _ _ => (pe_op op_mul (pe_has H_law_of (hr.mono (by decide)) (by rfl) (pa_cons (pv 0) (pa_cons (pe_lst (pa_cons pe_int (pa_cons pe_int (pa_cons pe_int pa_nil)))) pa_nil))) (pe_has H_law_from (hr.mono (by decide)) (by rfl) (pa_cons (pv 0) (pa_cons (pe_un un_neg pe_int) (pa_cons pe_int pa_nil))))))) pa_nil)))
      (pss_cons (ps_par (i := 4) (j := 5) rfl sc_law_right.nd rfl rfl (by decide) rfl rfl (pa_cons (pe_has H_law_row (hr.mono (by decide)) (by rfl) (pa_cons (pv 0) (pa_cons pe_int pa_nil))) (pa_cons (pe_has H_law_of (hr.mono (by decide)) (by rfl) (pa_cons (pv 0) (pa_cons (pe_lst (pa_cons pe_int (pa_cons pe_int (pa_cons (pe_un un_neg pe_int) (pa_cons pe_int (pa_cons pe_int pa_nil)))))) pa_nil))) pa_nil)) (by rfl))
      (pss_mid (ps_set (i := 6) sc_law_right.nd rfl (Or.inl rfl) (pe_has H_law_multiplied (hr.mono (by decide)) (by rfl) (pa_cons (pe_has H_law_added (hr.mono (by decide)) (by rfl) (pa_cons (pe_has H_law_multiplied (hr.mono (by decide)) (by rfl) (pa_cons (pv 2) (pa_cons (pv 4) pa_nil))) (pa_cons (pv 3) pa_nil))) (pa_cons (pe_lst (pa_cons (pe_callB call_abs (by rfl) T.abs PyProof.Rows.boot_abs (pa_cons (pv 5) pa_nil)) pa_nil)) pa_nil))))
      (pss_cons (ps_set (i := 7) sc_law_right.nd rfl (Or.inl rfl) (pe_lst (pa_cons (pe_has H_remainder (hr.mono (by decide)) (by rfl) (pa_cons (pv 6) (pa_cons (pv 2) pa_nil))) (pa_cons (pe_hasR0 HR_remainder (hr.mono (by decide)) (by rfl) (pk_cons (pv 2) (pk_cons (pv 6) pk_nil))) (pa_cons (pe_has H_remainder (hr.mono (by decide)) (by rfl) (pa_cons (pv 3) (pa_cons (pv 2) pa_nil))) (pa_cons (pe_has H_remainder (hr.mono (by decide)) (by rfl) (pa_cons (pv 3) (pa_cons (pe_has H_law_multiplied (hr.mono (by decide)) (by rfl) (pa_cons (pv 2) (pa_cons (pe_lst (pa_cons (pv 5) pa_nil)) pa_nil))) pa_nil))) pa_nil))))))
      (pss_cons (ps_set (i := 8) sc_law_right.nd rfl (Or.inl rfl) (pe_has H_law_short (hr.mono (by decide)) (by rfl) (pa_cons (pv 3) pa_nil)))
      (pss_cons (ps_if (pt_cmpR op_ne (pe_callB (call_repr hg hu) (by rfl) T.repr PyProof.Rows.boot_repr (pa_cons (pv 7) pa_nil)) (pe_callB (call_repr hg hu) (by rfl) T.repr PyProof.Rows.boot_repr (pa_cons (pe_lst (pa_cons (pv 8) (pa_cons (pv 8) (pa_cons (pv 8) (pa_cons (pv 8) pa_nil))))) pa_nil)) (nomark _)) (pss_one (ps_ret pe_bl)) pss_nil)
      (pss_cons (ps_set (i := 7) sc_law_right.nd rfl (Or.inl rfl) (pe_lst (pa_cons (pe_has H_remainder (hr.mono (by decide)) (by rfl) (pa_cons (pv 2) (pa_cons (pv 2) pa_nil))) (pa_cons (pe_has H_remainder (hr.mono (by decide)) (by rfl) (pa_cons (pe_has H_law_multiplied (hr.mono (by decide)) (by rfl) (pa_cons (pv 2) (pa_cons (pe_lst (pa_cons (pv 5) pa_nil)) pa_nil))) (pa_cons (pv 2) pa_nil))) (pa_cons (pe_has H_remainder (hr.mono (by decide)) (by rfl) (pa_cons (pe_tup pa_nil) (pa_cons (pv 2) pa_nil))) pa_nil)))))
      (pss_one (ps_ret (pe_cmpR op_eq (pe_callB (call_repr hg hu) (by rfl) T.repr PyProof.Rows.boot_repr (pa_cons (pv 7) pa_nil)) (pe_callB (call_repr hg hu) (by rfl) T.repr PyProof.Rows.boot_repr (pa_cons (pe_lst (pa_cons (pe_tup pa_nil) (pa_cons (pe_tup pa_nil) (pa_cons (pe_tup pa_nil) pa_nil)))) pa_nil)) (nomark _))))))))))))), ?_⟩
    refine ⟨_, rfl, u, 5, rfl, hu0, by decide, by decide, fun r H1 r0 r1 s1 => ⟨_, _, rfl, rfl, ?_⟩⟩
    obtain ⟨k, rfl⟩ := Int.eq_ofNat_of_zero_le r0
    have hk : k ≤ 4 := by omega
    have hu1 := s1 _ _ hu0
    -- the other row
    refine ⟨fun σ H' => ∃ (t1 : Addr) (o : List Int), σ = [some (.ref u), some (.int (1 + (k : Nat))), some (.ref t1), none, none, none, none, none, none, none] ∧ Same H H' ∧ H' u = some (PotO u) ∧ SqT K H' t1 (o.map V.int) ∧ OOk o k, ?_, ?_⟩
    · unfold tAsg tCB tCons tNil tOp
      dsimp only
      refine lcR (n := 1 + (k : Nat) - 1) (fun i y => ∃ z : Int, y = .int z ∧ z.natAbs ≤ 8) (fun R r => ⟨_, rfl, _, _, rfl, rfl, r _ (Same.refl _)⟩) (by omega) (by omega) (fun x => rfl) (fun i H3 hi sm Q' q' => ?_) (fun D ys G hD sG hy e1 e2 => ?_)
      · exact ⟨_, rfl, _, rfl, u, -4, 4, rfl, sm _ _ hu1, by decide, by decide, by decide, fun r H4 r0 r1 s4 => q' _ _ ⟨r, rfl, by omega⟩ s4⟩
      obtain ⟨ns, rfl, hns⟩ := ints_nat e2
      rw [List.length_map] at e1
      refine ⟨_, rfl, _, rfl, _, rfl, by show 5 ≤ sizeLine; decide, fun la hla => ⟨u, la, _, rfl, same_new hla _ _ (sG _ _ hu1), upd_same, by decide, by decide, fun x G' hx sH => ⟨by show 1 ≤ sizeLine; decide, fun lb hlb => ?_⟩⟩⟩
      obtain ⟨z, rfl, hz, hz'⟩ : ∃ z : Int, x = .int z ∧ z ≠ 0 ∧ z.natAbs ≤ 8 := by
        simp only [List.mem_cons,
              List.not_mem_nil, or_false] at hx
        rcases hx with rfl | rfl | rfl | rfl | rfl
        all_goals exact ⟨_, rfl, by decide, by decide⟩
      have sI := (same_new hla).trans sH
      have sJ := same_new (p := lb) (o := HO.lst [V.int z]) hlb
      refine ⟨D, lb, ns.map V.int, [V.int z], rfl, rfl, (sI.trans sJ) _ _ hy, upd_same, ?_, fun lc hlc => ?_⟩
      · rw [List.length_map]
        exact Nat.le_trans (by show ns.length + 1 ≤ 20; omega) (by decide)
      have sK := same_new (p := lc) (o := HO.lst (ns.map V.int ++ [V.int z])) hlc
      refine ⟨lc, _, rfl, Or.inl ⟨SqL.of upd_same, fun t ht => ?_⟩⟩
      have sL := same_new (p := t) (o := HO.tup (ns.map V.int ++ [V.int z])) ht
      have sM := s1.trans (sG.trans (sI.trans (sJ.trans (sK.trans sL))))
      exact ⟨t, ns ++ [z], rfl, sM, sM _ _ hu0, by rw [List.map_append]; exact SqT.of upd_same, .mk_snoc (by omega) hk hns hz hz'⟩
    rintro σ H2 ⟨t1, o, rfl, s2, hu2, so2, O⟩
    clear hu1 s1
    -- the short row
    refine ⟨fun σ H' => ∃ (t1 t2 : Addr) (o S : List Int), σ = [some (.ref u), some (.int (1 + (k : Nat))), some (.ref t1), some (.ref t2), none, none, none, none, none, none] ∧ Same H H' ∧ H' u = some (PotO u) ∧ SqT K H' t1 (o.map V.int) ∧ OOk o k ∧ SqT K H' t2 (S.map V.int) ∧ SOk S k, ?_, ?_⟩
    · unfold tAsg tCall tCons tNil
      dsimp only
      refine lcR (n := 1 + (k : Nat) - 1) (fun i y => ∃ z : Int, y = .int z ∧ z.natAbs ≤ 240) (fun R r => ⟨_, rfl, _, _, rfl, rfl, r _ (Same.refl _)⟩) (by omega) (by omega) (fun x => rfl) (fun i H3 hi sm Q' q' => ?_) (fun D ys G hD sG hy e1 e2 => ?_)
      · refine ⟨_, rfl, by show 3 ≤ sizeLine; decide, fun la hla => ⟨u, la, _, rfl, same_new hla _ _ (sm _ _ hu2), upd_same, by decide, by decide, fun x G hx sG => ?_⟩⟩
        obtain ⟨z, rfl, z0, z1⟩ := menu (l := [1, 1, 60]) (lo := 1) (hi := 60) hx (by decide)
        have sI := (same_new hla).trans sG
        refine ⟨_, rfl, _, rfl, u, -4, 4, rfl, sI _ _ (sm _ _ hu2), by decide, by decide, by decide, fun r G' r0 r1 s' => ⟨_, _, rfl, rfl, Or.inl (by omega), q' _ _ ⟨_, rfl, ?_⟩ (sI.trans s')⟩⟩
        rw [Int.natAbs_mul]
        exact Nat.mul_le_mul (by omega : z.natAbs ≤ 60) (by omega : r.natAbs ≤ 4)
      obtain ⟨ns, rfl, hns⟩ := ints_nat e2
      rw [List.length_map] at e1
      refine ⟨D, ns, rfl, SqL.of hy, by omega, fun p H4 s4 tp => ?_⟩
      obtain ⟨t2, rfl, st2⟩ := tp
      have sM := s2.trans (sG.trans s4)
      exact ⟨t1, t2, o, trimL ns, rfl, sM, sM _ _ hu0, same_sqT (sG.trans s4) so2, O, st2, Nat.le_trans (trim_len _) (by omega), trim_last _, fun z hz => hns z (trim_mem hz)⟩
    clear so2 O hu2 s2
    clear o t1 H2
    rintro σ H3 ⟨t1, t2, o, S, rfl, s3, hu3, so3, O, sS3, hS⟩
    -- the third row, the size
    refine ⟨_, rfl, u, 4, rfl, hu3, by decide, by decide, fun vc c H4 s4 tc RC lc bc => ⟨_, rfl, _, rfl, by show 5 ≤ sizeLine; decide, fun la hla => ⟨u, la, _, rfl, same_new hla _ _ (s4 _ _ hu3), upd_same, by decide, by decide, fun x H5 hx s5 => ⟨_, _, rfl, ?_⟩⟩⟩⟩
    obtain ⟨sz, rfl, sz0, bz⟩ : ∃ sz : Int, x = .int sz ∧ sz ≠ 0 ∧ sz.natAbs ≤ 2 ^ 20 := by
      simp only [List.mem_cons,
            List.not_mem_nil, or_false] at hx
      rcases hx with rfl | rfl | rfl | rfl | rfl
      all_goals exact ⟨_, rfl, by decide, by decide⟩
    have s45 := (same_new hla).trans s5
    have s35 := s4.trans s45
    have so5 := same_sqT s35 so3
    have sS5 := same_sqT s35 sS3
    have tc5 := tc.same s45
    have s05 := s3.trans s35
    clear hx s45 s35 s5 hla la s4 tc H4 so3 sS3 hu3 s3 H3
    have lc4 : c.length ≤ 4 := by omega
    have bz' : ((sz.natAbs : Nat) : Int).natAbs ≤ 2 ^ 20 := by rw [Int.natAbs_natCast]; exact bz
    obtain ⟨DR, l1, l2, b1, b2⟩ := div_row (s := ((sz.natAbs : Nat) : Int)) O hS lc4 bc (by omega) bz'
    have b64 : ∀ {L : List Int} {n : Nat}, (∀ x ∈ L, x.natAbs ≤ n) → n < 2 ^ 64 → ∀ x ∈ L, x.natAbs < 2 ^ 64 := fun h hn x hx => Nat.lt_of_le_of_lt (h x hx) hn
    have lo5 : o.length ≤ 5 := by have := O.len; omega
    have lS4 : S.length ≤ 4 := by have := hS.len; omega
    -- the row
    refine ⟨fun σ H' => ∃ (t6 : Addr), σ = [some (.ref u), some (.int (1 + (k : Nat))), some (.ref t1), some (.ref t2), some vc, some (.int sz), some (.ref t6), none, none, none] ∧ Same H H' ∧ SqT K H' t1 (o.map V.int) ∧ SqT K H' t2 (S.map V.int) ∧ SqT K H' t6 ((rowL o c S ((sz.natAbs : Nat) : Int)).map V.int), ?_, ?_⟩
    · refine ⟨_, rfl, _, rfl, _, _, o, c, rfl, ⟨t1, rfl, so5⟩, Or.inl tc5, by omega, by omega, b64 O.b8 (by decide), fun p1 H6 s6 tp1 => ⟨_, rfl, _, _, mulL o c, S, rfl, tp1, ⟨t2, rfl, same_sqT s6 sS5⟩, by omega, by omega, b64 b1 (by decide), fun p2 H7 s7 tp2 => ⟨_, rfl, sz, rfl, by show 1 ≤ sizeLine; decide, fun l hl => ?_⟩⟩⟩
      have sl := same_new (p := l) (o := HO.lst [V.int (if sz < 0 then -sz else sz)]) hl
      refine ⟨_, _, trimL (addL (mulL o c) S), [((sz.natAbs : Nat) : Int)], rfl, tp2.same sl, Or.inr ⟨l, rfl, ?_⟩, by omega, by show 1 ≤ 100; decide, b64 b2 (by decide), fun p3 H8 s8 tp3 => ?_⟩
      · rw [← abs_nat]
        exact SqL.of upd_same
      · obtain ⟨t6, rfl, st6⟩ := tp3
        have sA := s6.trans (s7.trans (sl.trans s8))
        exact ⟨t6, rfl, s05.trans sA, same_sqT sA so5, same_sqT sA sS5, st6⟩
    clear so5 sS5 tc5 s05 H5
    rintro σ H6 ⟨t6, rfl, s6, so6, sS6, sR6⟩
    have DS := div_short O hS
    have DB := div_big (s := sz) O hS sz0 bz
    -- what is told of sums
    refine ⟨_, rfl, _, rfl, _, _, _, o, S, rfl, ⟨t6, rfl, sR6⟩, ⟨t1, rfl, so6⟩, DR, fun p1 H7 s7 q1 => ⟨_, rfl, _, rfl, _, _, _, o, S, rfl, ⟨t6, rfl, same_sqT s7 sR6⟩, ⟨t1, rfl, same_sqT s7 so6⟩, DR, fun p2 H8 s8 q2 => ?_⟩⟩
    have s68 := s7.trans s8
    refine ⟨_, rfl, _, rfl, _, _, S, o, S, rfl, ⟨t2, rfl, same_sqT s68 sS6⟩, ⟨t1, rfl, same_sqT s68 so6⟩, DS, fun p3 H9 s9 q3 => ?_⟩
    have s69 := s68.trans s9
    refine ⟨_, rfl, _, rfl, _, rfl, by show 1 ≤ sizeLine; decide, fun l hl => ?_⟩
    have sl := same_new (p := l) (o := HO.lst [V.int sz]) hl
    have s6l := s69.trans sl
    refine ⟨_, _, o, [sz], rfl, ⟨t1, rfl, same_sqT s6l so6⟩, Or.inr ⟨l, rfl, SqL.of upd_same⟩, by omega, by show 1 ≤ 100; decide, b64 O.b8 (by decide), fun p4' H10 s10 q4' => ⟨_, _, S, mulL o [sz], S, rfl, ⟨t2, rfl, same_sqT (s6l.trans s10) sS6⟩, q4', DB, fun p4 H11 s11 q4 => ⟨by show 4 ≤ sizeLine; decide, fun lt hlt => ?_⟩⟩⟩
    have sT := same_new (p := lt) (o := HO.lst [p1, p2, p3, p4]) hlt
    have s1t := s11.trans sT
    have s9t := sl.trans (s10.trans s1t)
    have aT : (upd H11 lt (.lst [p1, p2, p3, p4])) lt = some (.lst [p1, p2, p3, p4]) := upd_same
    have Q1 := q1.same (s8.trans (s9.trans s9t))
    have Q2 := q2.same (s9.trans s9t)
    have Q3 := q3.same s9t
    have Q4 := q4.same sT
    have s6t := s69.trans s9t
    have so12 := same_sqT s6t so6
    have sS12 := same_sqT s6t sS6
    have s012 := s6.trans s6t
    generalize upd H11 lt (.lst [p1, p2, p3, p4]) = H12 at aT Q1 Q2 Q3 Q4 so12 sS12 s012 ⊢
    clear q1 q2 q3 q4 q4' s6t s9t s1t sT s11 s10 s6l sl s69 s68 s9 s8 s7 sR6 sS6 so6 s6 hl hlt
    refine ⟨_, rfl, _, S, rfl, ⟨t2, rfl, sS12⟩, hS.ro hk, fun pd H13 s13 qd => ?_⟩
    have DT := dp_list (K := K) (H := H13) (s13 _ _ aT) (dpAll_tps (nss := [shortL S, shortL S, shortL S, shortL S]) (.cons (Q1.same s13) (.cons (Q2.same s13) (.cons (Q3.same s13) (.cons (Q4.same s13) .nil)))))
    have lsh : (shortL S).length ≤ 13 := by unfold shortL; rw [List.length_map]; omega
    have bsh : ∀ z ∈ shortL S, z.natAbs ≤ 2 ^ 255 := fun z hz => by
      unfold shortL at hz
      obtain ⟨x, hx, rfl⟩ := List.mem_map.mp hz
      refine Nat.le_trans ?_ (Nat.le_trans (hS.b x hx) (by decide))
      rcases Nat.eq_zero_or_pos (gAll S) with h0 | h0
      · rw [h0]
        show (x / 0).natAbs ≤ _
        rw [Int.ediv_zero]
        exact Nat.zero_le _
      · have hd : gAll S ∣ x.natAbs := (gAll_dvd S 0).2 x hx
        obtain ⟨y, hy⟩ : ∃ y : Int, x = (gAll S : Int) * y := Int.ofNat_dvd_left.mpr hd
        rw [hy, Int.mul_ediv_cancel_left _ (by omega), Int.natAbs_mul, Int.natAbs_natCast]
        exact Nat.le_mul_of_pos_left _ h0
    have BO : BigOk ([shortL S, shortL S, shortL S, shortL S].map tupD) (3400 * 4) := btups_ok (nss := [shortL S, shortL S, shortL S, shortL S]) fun ns h => by
      simp only [List.mem_cons, List.not_mem_nil, or_false, or_self] at h
      subst h
      exact ⟨lsh, bsh⟩
    obtain ⟨o1, o2, o3, o4⟩ := brep_facts BO (by decide)
    refine ⟨_, rfl, lt, _, rfl, DT, o1, o2, o3, o4, _, rfl, _, rfl, _, rfl, _, rfl, by show 4 ≤ sizeLine; decide, fun ld hld => ?_⟩
    have sD := same_new (p := ld) (o := HO.lst [pd, pd, pd, pd]) hld
    have DD := dp_list (K := K) (H := upd H13 ld (HO.lst [pd, pd, pd, pd])) upd_same (dpAll_tps (nss := [shortL S, shortL S, shortL S, shortL S]) (.cons (qd.same sD) (.cons (qd.same sD) (.cons (qd.same sD) (.cons (qd.same sD) .nil)))))
    refine ⟨ld, _, rfl, DD, o1, o2, o3, o4, rfl, _, rfl, iteNS rfl ?_⟩
    have sE := s13.trans sD
    have so14 := same_sqT sE so12
    have s014 := s012.trans sE
    generalize upd H13 ld (HO.lst [pd, pd, pd, pd]) = H14 at so14 s014 ⊢
    clear DD DT sE sD hld qd s13 aT Q1 Q2 Q3 Q4 so12 sS12 s012 BO o1 o2 o3 o4
    -- of itself
    refine ⟨_, rfl, _, rfl, _, _, o, o, [], rfl, ⟨t1, rfl, so14⟩, ⟨t1, rfl, so14⟩, div_self O, fun p1 H15 s15 q1 => ⟨_, rfl, _, rfl, by show 1 ≤ sizeLine; decide, fun l hl => ?_⟩⟩
    have sl := same_new (p := l) (o := HO.lst [V.int sz]) hl
    have s5l := s15.trans sl
    refine ⟨_, _, o, [sz], rfl, ⟨t1, rfl, same_sqT s5l so14⟩, Or.inr ⟨l, rfl, SqL.of upd_same⟩, by omega, by show 1 ≤ 100; decide, b64 O.b8 (by decide), fun p2' H16 s16 q2' => ⟨_, rfl, _, _, mulL o [sz], o, [], rfl, q2', ⟨t1, rfl, same_sqT (s5l.trans s16) so14⟩, div_mult O bz, fun p2 H17 s17 q2 => ⟨by show 0 ≤ sizeLine; decide, fun pe hpe => ?_⟩⟩⟩
    have se := same_new (p := pe) (o := HO.tup []) hpe
    have s7e := s5l.trans (s16.trans (s17.trans se))
    refine ⟨_, rfl, _, _, [], o, [], rfl, ⟨pe, rfl, SqT.of upd_same⟩, ⟨t1, rfl, same_sqT s7e so14⟩, div_none O, fun p3 H18 s18 q3 => ⟨by show 3 ≤ sizeLine; decide, fun lt2 hlt2 => ?_⟩⟩
    have sT := same_new (p := lt2) (o := HO.lst [p1, p2, p3]) hlt2
    have DT := dp_list (K := K) (H := upd H18 lt2 (HO.lst [p1, p2, p3])) upd_same (dpAll_tps (nss := [[], [], []]) (.cons (q1.same (sl.trans (s16.trans (s17.trans (se.trans (s18.trans sT)))))) (.cons (q2.same (se.trans (s18.trans sT))) (.cons (q3.same sT) .nil))))
    have BO : BigOk ([([] : List Int), [], []].map tupD) (3400 * 3) := btups_ok (nss := [[], [], []]) fun ns h => by
      simp only [List.mem_cons, List.not_mem_nil, or_false, or_self] at h
      subst h
      exact ⟨by decide, fun z hz => nomatch hz⟩
    obtain ⟨o1, o2, o3, o4⟩ := brep_facts BO (by decide)
    have s018 := s014.trans (s7e.trans (s18.trans sT))
    generalize upd H18 lt2 (HO.lst [p1, p2, p3]) = H19 at DT s018 ⊢
    clear q1 q2 q3 q2' sT s18 s7e se s17 s16 s5l sl s15 so14 s014
    refine ⟨_, rfl, lt2, _, rfl, DT, o1, o2, o3, o4, by show 0 ≤ sizeLine; decide, fun e1 h1 => ?_⟩
    refine ⟨by show 0 ≤ sizeLine; decide, fun e2 h2 => ⟨by show 0 ≤ sizeLine; decide, fun e3 h3 => ⟨by show 3 ≤ sizeLine; decide, fun l5 h5 => ?_⟩⟩⟩
    have sC := same_new (p := e3) (o := HO.tup []) h3
    have sD := same_new (p := l5) (o := HO.lst [V.ref e1, .ref e2, .ref e3]) h5
    have sB := same_new (p := e2) (o := HO.tup []) h2
    have sA := same_new (p := e1) (o := HO.tup []) h1
    have X1 : Tp K (upd (upd (upd (upd H19 e1 (.tup [])) e2 (.tup [])) e3 (.tup [])) l5 (.lst [V.ref e1, .ref e2, .ref e3])) (.ref e1) [] := ⟨e1, rfl, same_sqT (sB.trans (sC.trans sD)) (SqT.of upd_same)⟩
    have X2 : Tp K (upd (upd (upd (upd H19 e1 (.tup [])) e2 (.tup [])) e3 (.tup [])) l5 (.lst [V.ref e1, .ref e2, .ref e3])) (.ref e2) [] := ⟨e2, rfl, same_sqT (sC.trans sD) (SqT.of upd_same)⟩
    have X3 : Tp K (upd (upd (upd (upd H19 e1 (.tup [])) e2 (.tup [])) e3 (.tup [])) l5 (.lst [V.ref e1, .ref e2, .ref e3])) (.ref e3) [] := ⟨e3, rfl, same_sqT sD (SqT.of upd_same)⟩
    have DD := dp_list (K := K) (H := upd (upd (upd (upd H19 e1 (.tup [])) e2 (.tup [])) e3 (.tup [])) l5 (.lst [V.ref e1, .ref e2, .ref e3])) upd_same (dpAll_tps (nss := [[], [], []]) (.cons X1 (.cons X2 (.cons X3 .nil))))
    refine ⟨l5, _, rfl, DD, o1, o2, o3, o4, rfl, ?_⟩
    have := q _ (s018.trans (sA.trans (sB.trans (sC.trans sD))))
    simpa using this
end
end K5

namespace K5
open PySem L2 Ur
section
variable {P : Program} {w : World} {K :
      PySem.W.Frag} {mg : Str → Option Value} {base : Heap}
abbrev n_law : List Str := ["_law_script", "_law_turn"]
abbrev p_law : List Str := ["_law_script"]
theorem sc_law : FnScope n_law p_law (defScope sLaw) := ⟨rfl, rfl, rfl, by decide +kernel, rfl, by decide +kernel, by decide +kernel⟩
def spLaw (K : PySem.W.Frag) : Sp := fun vs H Q _ => ∃ (a : Addr) (ns : List Int), vs = [.ref a] ∧ SqL K H a (ns.map V.int) ∧ ∀ H' : Hp, Q (.bl true) H'
theorem ok_law {f : Addr} {fd : FuncData} (F : Fun K "law" "law" sLaw f fd) (T : Bl mg) (H_law_pot : Has P w K mg base "_law_pot" p_pot 1 (spPot K))
    (HG_law_right : HasG P w K mg base "_law_right" p_law_right 7 spRight) : FnG P w K mg base CX0 8 f fd p_law (spLaw K) := by
  refine okG F sc_law (fun vs H Q E h => ?_) (fun cdv A outer s H vs Q E hg hr h => ?_)
  · obtain ⟨a, ns, rfl, _⟩ := h
    rfl
  · obtain ⟨a, ns, rfl, hS, q⟩ := h
    refine ⟨_, (pss_one (ps_ret (pe_callB (cr_all rfl) (by rfl) T.all PyProof.Rows.boot_all (pa_cons (pe_lc (own := [("_law_turn", 1)]) (g := gName 1) (tt := tYes) rfl sc_law.nd (pi_range1 (by rfl) T.range (pa_cons (pe_callB (call_max2 rfl) (by rfl) T.max PyProof.Rows.boot_max (pa_cons pe_int (pa_cons (pe_callB (call_min2 rfl) (by rfl) T.min PyProof.Rows.boot_min (pa_cons (pe_callB (r := rLen K) len_seq (by rfl) T.len PySem.boot_len (pa_cons (pv 0) pa_nil)) (pa_cons pe_int pa_nil))) pa_nil))) pa_nil)) (blkOk_by (N := n_law) (sc := defScope sLaw) (by decide +kernel)) (fun _ _ _ _ _ => pg_name (i := 1) sc_law.nd rfl (Or.inl rfl)) (fun _ _ _ _ _ => pts_nil) (fun _ _ _ _ _ => (pe_hasG HG_law_right hg (hr.mono (by decide)) (by rfl) (pa_cons (pe_shutP (pe_has H_law_pot (hr.mono (by decide)) (by rfl) (pa_cons (pv 0) (pa_cons (pv 1) pa_nil)))) pa_nil)))) pa_nil)))), ?_⟩
    unfold tRet tCB tCons tNil
    dsimp only
    refine lcRn (fun n => 2 ≤ n ∧ n ≤ 4) (fun n i y => y = .bl true) (fun R r => ?_) (fun n hn => ⟨by omega, by omega⟩) (fun x => rfl) (fun n i H3 hn hi sm Q' q' => ?_) (fun n D ys H2 hn hD s2 hy e1 e2 => ?_)
    · refine ⟨_, rfl, a, _, rfl, Or.inl hS, _, _, rfl, _, _, rfl, r _ H ⟨?_, ?_⟩ (Same.refl _)⟩
      · split <;> split at * <;> omega
      · split <;> split at * <;> omega
    · refine ⟨_, rfl, _, rfl, a, ns, _, rfl, sm.seq hS, by omega, by omega, fun p x y z H5 hp s5 B hy => ⟨p, rfl, x, y, z, B, hy, p, rfl, upd_same, fun H6 s6 => q' _ _ rfl ((same_own s5 hp).trans s6)⟩⟩
    · have ey : ys = (List.replicate ys.length true).map V.bl := by
        apply List.ext_getElem?
        intro i
        cases h : ys[i]? with
        | none =>
          have := List.getElem?_eq_none_iff.mp h
          rw [List.getElem?_eq_none (by simpa using this)]
        | some y =>
          have hl := (List.getElem?_eq_some_iff.mp h).1
          obtain rfl := e2 i y h
          rw [List.getElem?_map, List.getElem?_replicate, if_pos hl]
          rfl
      rw [ey] at hy
      refine ⟨D, List.replicate ys.length true, rfl, SqL.of hy, ?_⟩
      have e3 : (List.replicate ys.length true).all id = true := by simp
      rw [e3]
      exact q _
end
end K5

namespace Ur
open PySem L2
def FndR (K : PySem.W.Frag) (mg : Str → Option Value) (x : Str) (st : Stmt) (ps : List Str) : Prop :=
  ∃ f fd, Fun K x x st f fd ∧ mg x = some (.ref f) ∧ Binds K fd ps [] ∧ ∀ (s : Shared) (ws : List Value), ws.length = ps.length → BindsTo s fd ⟨[], ps.reverse.zip ws⟩ (ps.zip ws.reverse)
def FndN (K : PySem.W.Frag) (mg : Str → Option Value) (x : Str) (st : Stmt) (ps : List Str) : Prop :=
  ∃ f fd, Fun K x x st f fd ∧ mg x = some (.ref f) ∧ Binds K fd ps [] ∧ KBn K fd ps 1 ["fraction", "other"] (fun us ws => us ++ ws.reverse) (fun vs zs => vs ++ zs.reverse)
section
variable {P : Program} {w : World} {K : PySem.W.Frag} {mg : Str → Option Value} {base : Heap} {x : Str} {st : Stmt} {ps : List Str} {k : Nat} {sp : Sp}
theorem FndR.fnd (D : FndR K mg x st ps) : Fnd K mg x st ps := by
  obtain ⟨f, fd, F, m, b, _⟩ := D
  exact ⟨f, fd, F, m, b⟩
theorem FndN.fnd (D : FndN K mg x st ps) : Fnd K mg x st ps := by
  obtain ⟨f, fd, F, m, b, _⟩ := D
  exact ⟨f, fd, F, m, b⟩
theorem FndR.hasR (D : FndR K mg x st ps) (h : ∀ {f fd}, Fun K x x st f fd → FnOk P w K mg base CX0 k f fd ps sp) : HasR P w K mg base x ps k sp := by
  obtain ⟨f, fd, F, m, _, b⟩ := D
  exact ⟨f, fd, h F, m, F.kp, fun s ws _ hl => b s ws hl⟩
theorem FndN.hasN (D : FndN K mg x st ps) (h : ∀ {f fd}, Fun K x x st f fd → FnOk P w K mg base CX0 k f fd ps sp) : HasN P w K mg base x ps 1 ["fraction", "other"] k sp := by
  obtain ⟨f, fd, F, m, _, b⟩ := D
  exact ⟨f, fd, h F, m, F.kp, b⟩
end
section
variable {K : PySem.W.Frag} {h : Heap} {mg : Str → Option Value} {x : Str} {st : Stmt} {ps : List Str} {f : Addr} {oc kV dc pm cd ct : Value} {od an : Option Addr} {sl : Array (Option Value)}
theorem fndR_mk (X : K.In h) (G : h.Ns mainGlobals mg) (a : PySem.W.nsIn K mainGlobals x = some (some (.ref f))) (l : K.lookup f = some ⟨oc, od, .func (PySem.W.fnOf x x (defArgs st) (defBody st) (defScope st) .none kV dc pm an cd ct), sl⟩)
    (c : PySem.W.codeIn K cd x = true) (k : PySem.W.keepIn K (.ref f) = true)
    (hb : ∀ (kV doc pm : Value) (an : Option Addr) (cdv ct : Value) (us : List Value), us.length = ps.length → bindArgs (PySem.W.fnOf x x (defArgs st) (defBody st) (defScope st) .none kV doc pm an cdv ct) ⟨us, []⟩ = pure (ps.zip us))
    (hk : ∀ (kV doc pm : Value) (an : Option Addr) (cdv ct : Value) (ws : List Value), ws.length = ps.length → bindArgs (PySem.W.fnOf x x (defArgs st) (defBody st) (defScope st) .none kV doc pm an cdv ct) ⟨[], ps.reverse.zip ws⟩ = pure (ps.zip ws.reverse)) : FndR K mg x st ps := by
  have F := fun_mk l c k
  exact ⟨f, _, F, PySem.W.mg_of X G a, F.binds hb, fun s ws hl => .of_eq (hk _ _ _ _ _ _ ws hl)⟩
theorem fndN_mk (X : K.In h) (G : h.Ns mainGlobals mg) (a : PySem.W.nsIn K mainGlobals x = some (some (.ref f))) (l : K.lookup f = some ⟨oc, od, .func (PySem.W.fnOf x x (defArgs st) (defBody st) (defScope st) .none kV dc pm an cd ct), sl⟩)
    (c : PySem.W.codeIn K cd x = true) (k : PySem.W.keepIn K (.ref f) = true)
    (hb : ∀ (kV doc pm : Value) (an : Option Addr) (cdv ct : Value) (us : List Value), us.length = ps.length → bindArgs (PySem.W.fnOf x x (defArgs st) (defBody st) (defScope st) .none kV doc pm an cdv ct) ⟨us, []⟩ = pure (ps.zip us))
    (hk : ∀ (kV doc pm : Value) (an : Option Addr) (cdv ct : Value) (us ws : List Value), us.length = 1 → ws.length = 2 → bindArgs (PySem.W.fnOf x x (defArgs st) (defBody st) (defScope st) .none kV doc pm an cdv ct) ⟨us, List.zip ["fraction", "other"] ws⟩ = pure (ps.zip (us ++ ws.reverse))) : FndN K mg x st ps := by
  have F := fun_mk l c k
  exact ⟨f, _, F, PySem.W.mg_of X G a, F.binds hb, ⟨fun s us ws _ h1 h2 => .of_eq (hk _ _ _ _ _ _ us ws h1 h2), fun r rz => r.append (vals_rev rz)⟩⟩
end
end Ur
namespace K5
open PySem L2 Ur
section
variable {P : Program} {w : World} {K :
      PySem.W.Frag} {mg : Str → Option Value} {base : Heap}
theorem all_ok {f : Addr} {fd : FuncData} (F : Fun K "law" "law" sLaw f fd) (T : Bl mg) (mG : mg "gcd" = some (.builtin "math.gcd"))
    (D0 : Ur.Fnd K mg "sign_of" sSign K5.p_num) (D1 : Ur.Fnd K mg "common_divisor" sCom K5.p_common_divisor) (D2 : Ur.Fnd K mg "is_whole" sWhole K5.n_is_whole) (D3 : Ur.Fnd K mg "wholes_fit" sWholes K5.p_wholes_fit) (D4 : Ur.Fnd K mg "numbers_fit" sNumsF K5.n_value) (D5 : Ur.Fnd K mg "row_fits" sRowF K5.n_value) (D6 : Ur.Fnd K mg "check_row" sChkR K5.n_value) (D7 : Ur.Fnd K mg "trimmed" sTrim K5.p_trimmed) (D8 : Ur.Fnd K mg "row_shortest" sRShort K5.p_r) (D9 : Ur.Fnd K mg "row_division" sRDiv K5.p_ro) (D10 : Ur.Fnd K mg "row_remainder" sRRem K5.p_ro) (D11 : Ur.FndR K mg "remainder" sRemn K5.p_ro) (D12 : Ur.Fnd K mg "_law_pot" sPot K5.p_pot) (D13 : Ur.Fnd K mg "_law_draw" sDraw K5.pDraw) (D14 : Ur.Fnd K mg "_law_of" sOf K5.p_of) (D15 : Ur.Fnd K mg "_law_from" sFrom K5.p_from) (D16 : Ur.Fnd K mg "_law_common" sLCom K5.p_lcom) (D17 : Ur.Fnd K mg "_law_short" sLShort K5.p_some) (D18 : Ur.Fnd K mg "_law_trim" sLTrim K5.p_some) (D19 : Ur.Fnd K mg "_law_added" sLAdded K5.p_lot) (D20 : Ur.Fnd K mg "_law_multiplied" sLMult K5.p_lot) (D21 : Ur.Fnd K mg "_law_row" sLRow K5.p_lrow) (D22 : Ur.Fnd K mg "_law_right" sRight K5.p_law_right) :
    FnG P w K mg base CX0 8 f fd p_law (spLaw K) := by
  have h_sign_of : Has P w K mg base "sign_of" K5.p_num 1 spSgn := D0.has fun F => ok_sign F 
  have h_common_divisor : Has P w K mg base "common_divisor" K5.p_common_divisor 1 (spCom K) := D1.has fun F => ok_com F mG
  have h_is_whole : Has P w K mg base "is_whole" K5.n_is_whole 1 (spWhole K) := D2.has fun F => ok_whole F T
  have h_wholes_fit : Has P w K mg base "wholes_fit" K5.p_wholes_fit 2 (spTold K fun xs => xs.all wh) := D3.has fun F => ok_wholes F T h_is_whole
  have h_numbers_fit : Has P w K mg base "numbers_fit" K5.n_value 3 (spTold K isNums) := D4.has fun F => ok_numsF F T h_wholes_fit
  have h_row_fits : Has P w K mg base "row_fits" K5.n_value 4 (spTold K isRw) := D5.has fun F => ok_rowF F h_numbers_fit
  have h_check_row : Has P w K mg base "check_row" K5.n_value 5 (spChk K isRw) := D6.has fun F => ok_chkR F h_row_fits
  have h_trimmed : Has P w K mg base "trimmed" K5.p_trimmed 1 (spTrim K) := D7.has fun F => ok_trim F T
  have h_row_shortest : Has P w K mg base "row_shortest" K5.p_r 2 (spRow1 K shortL) := D8.has fun F => ok_rshort F T h_common_divisor
  have h_row_division : Has P w K mg base "row_division" K5.p_ro 2 (spDiv K) := D9.has fun F => ok_rdiv F T mG h_sign_of h_trimmed
  have h_row_remainder : Has P w K mg base "row_remainder" K5.p_ro 3 (spRemn K) := D10.has fun F => ok_rrem F h_row_shortest h_row_division
  have h_remainder : Has P w K mg base "remainder" K5.p_ro 6 (spRemn K) := D11.fnd.has fun F => ok_remn F h_check_row h_row_remainder
  have r_remainder : HasR P w K mg base "remainder" K5.p_ro 6 (spRemn K) := D11.hasR fun F => ok_remn F h_check_row h_row_remainder
  have h__law_pot : Has P w K mg base "_law_pot" K5.p_pot 1 (spPot K) := D12.has fun F => ok_pot F T
  have h__law_draw : Has P w K mg base "_law_draw" K5.pDraw 1 spDraw := D13.has fun F => ok_draw F T
  have h__law_of : Has P w K mg base "_law_of" K5.p_of 2 spOf := D14.has fun F => ok_of F T h__law_draw
  have h__law_from : Has P w K mg base "_law_from" K5.p_from 2 spFrom := D15.has fun F => ok_from F h__law_draw
  have h__law_common : Has P w K mg base "_law_common" K5.p_lcom 1 (spLCom K) := D16.has fun F => ok_lcom F T
  have h__law_short : Has P w K mg base "_law_short" K5.p_some 2 (spRow1 K shortL) := D17.has fun F => ok_lshort F T h__law_common
  have h__law_trim : Has P w K mg base "_law_trim" K5.p_some 1 (spLTrim K) := D18.has fun F => ok_ltrim F T
  have h__law_added : Has P w K mg base "_law_added" K5.p_lot 2 (spL2 K fun a b => trimL (addL a b)) := D19.has fun F => ok_ladded F T h__law_trim
  have h__law_multiplied : Has P w K mg base "_law_multiplied" K5.p_lot 2 (spMul K) := D20.has fun F => ok_lmult F T h__law_trim
  have h__law_row : Has P w K mg base "_law_row" K5.p_lrow 3 (spLRow K) := D21.has fun F => ok_lrow F T h__law_of h__law_from h__law_draw h__law_trim
  have h__law_right : HasG P w K mg base "_law_right" K5.p_law_right 7 spRight := D22.hasG fun F => ok_right F T h__law_draw h__law_of h__law_from h__law_row h__law_trim h__law_added h__law_multiplied h__law_short h_remainder r_remainder
  exact ok_law F T h__law_pot h__law_right
end
theorem walk5 {l : PySem.W.OpenLaw} {q : Program} {loose : List Str} {XP : (Str → Option Value) → Heap → Prop} {YP : World → Heap → Prop} {d : DefRec} {K : Params → PySem.W.Frag} (hn : l.most = some 63) (hdf : d.params.defaults = [])
    (hY : ∀ (w : World) (h : Heap),
          YP w h → (K w.params).In h)
    (F : ∀ (w : World) (mg : Str → Option Value) (fa : Addr) (h : Heap),
          (K w.params).In h → h.Ns mainGlobals mg → mg d.name = some (.ref fa) →
      ∃ fd : FuncData, (∀ (s : Shared) (u : Value), BindsTo s fd ⟨[u], []⟩ [("_law_script", u)]) ∧ ∀ base : Heap, (K w.params).In base → base.Ns mainGlobals mg → FnG l.prog w (K w.params) mg base CX0 8 fa fd p_law (spLaw (K w.params))) :
    PySem.W.WalkO q loose XP YP l.row.toRowW
          d [] (fun f vs => PySem.call f vs) :=
  walkG (n := 63) (k := 8) (x := "_law_script") (sp := fun K => spLaw K) hn (by decide) hdf ⟨rfl, by decide, by decide⟩ hY F fun _ _ a ns _ hS => ⟨a, ns, rfl, hS, fun _ => rfl⟩
theorem law_mk {l : PySem.W.OpenLaw} {w : World} {K : PySem.W.Frag} {h : Heap} {mg : Str → Option Value} {fa f1 : Addr} (X : K.In h) (G : h.Ns mainGlobals mg) (hfa : mg "law" = some (.ref fa))
    {oc kV dc pm cd ct : Value} {od an : Option Addr} {sl : Array (Option Value)} (a : PySem.W.nsIn K mainGlobals "law" = some (some (.ref f1)))
    (lk : K.lookup f1 = some ⟨oc, od, .func (PySem.W.fnOf "law" "law" (defArgs sLaw) (defBody sLaw) (defScope sLaw) .none kV dc pm an cd ct), sl⟩) (c : PySem.W.codeIn K cd "law" = true) (k : PySem.W.keepIn K (.ref f1) = true)
    (ok : ∀ (base : Heap) (fd : FuncData), Fun K "law" "law" sLaw f1 fd → FnG l.prog w K mg base CX0 8 f1 fd p_law (spLaw K)) :
    ∃ fd : FuncData, (∀ (s : Shared) (u : Value), BindsTo s fd ⟨[u], []⟩ [("_law_script", u)]) ∧ ∀ base : Heap, K.In base → base.Ns mainGlobals mg → FnG l.prog w K mg base CX0 8 fa fd p_law (spLaw K) := by
  obtain rfl : fa = f1 := by
    have e := hfa.symm.trans (PySem.W.mg_of X G a)
    cases e
    rfl
  exact ⟨_, fun s u => .of_eq rfl, fun base _ _ => ok base _ (fun_mk lk c k)⟩
theorem law_all {l : PySem.W.OpenLaw} {w : World} {K : PySem.W.Frag} {h : Heap} {mg : Str → Option Value} {fa f1 : Addr} (X : K.In h) (G : h.Ns mainGlobals mg) (hfa : mg "law" = some (.ref fa)) (T : Bl mg) (mG : mg "gcd" = some (.builtin "math.gcd"))
    (D0 : Ur.Fnd K mg "sign_of" sSign K5.p_num) (D1 : Ur.Fnd K mg "common_divisor" sCom K5.p_common_divisor) (D2 : Ur.Fnd K mg "is_whole" sWhole K5.n_is_whole) (D3 : Ur.Fnd K mg "wholes_fit" sWholes K5.p_wholes_fit) (D4 : Ur.Fnd K mg "numbers_fit" sNumsF K5.n_value) (D5 : Ur.Fnd K mg "row_fits" sRowF K5.n_value) (D6 : Ur.Fnd K mg "check_row" sChkR K5.n_value) (D7 : Ur.Fnd K mg "trimmed" sTrim K5.p_trimmed) (D8 : Ur.Fnd K mg "row_shortest" sRShort K5.p_r) (D9 : Ur.Fnd K mg "row_division" sRDiv K5.p_ro) (D10 : Ur.Fnd K mg "row_remainder" sRRem K5.p_ro) (D11 : Ur.FndR K mg "remainder" sRemn K5.p_ro) (D12 : Ur.Fnd K mg "_law_pot" sPot K5.p_pot) (D13 : Ur.Fnd K mg "_law_draw" sDraw K5.pDraw) (D14 : Ur.Fnd K mg "_law_of" sOf K5.p_of) (D15 : Ur.Fnd K mg "_law_from" sFrom K5.p_from) (D16 : Ur.Fnd K mg "_law_common" sLCom K5.p_lcom) (D17 : Ur.Fnd K mg "_law_short" sLShort K5.p_some) (D18 : Ur.Fnd K mg "_law_trim" sLTrim K5.p_some) (D19 : Ur.Fnd K mg "_law_added" sLAdded K5.p_lot) (D20 : Ur.Fnd K mg "_law_multiplied" sLMult K5.p_lot) (D21 : Ur.Fnd K mg "_law_row" sLRow K5.p_lrow) (D22 : Ur.Fnd K mg "_law_right" sRight K5.p_law_right)
    {oc kV dc pm cd ct : Value} {od an : Option Addr} {sl : Array (Option Value)} (a : PySem.W.nsIn K mainGlobals "law" = some (some (.ref f1)))
    (lk : K.lookup f1 = some ⟨oc, od, .func (PySem.W.fnOf "law" "law" (defArgs sLaw) (defBody sLaw) (defScope sLaw) .none kV dc pm an cd ct), sl⟩) (c : PySem.W.codeIn K cd "law" = true) (k : PySem.W.keepIn K (.ref f1) = true) :
    ∃ fd : FuncData, (∀ (s : Shared) (u : Value), BindsTo s fd ⟨[u], []⟩ [("_law_script", u)]) ∧ ∀ base : Heap, K.In base → base.Ns mainGlobals mg → FnG l.prog w K mg base CX0 8 fa fd p_law (spLaw K) :=
  law_mk X G hfa a lk c k fun base fd F => all_ok F T mG D0 D1 D2 D3 D4 D5 D6 D7 D8 D9 D10 D11 D12 D13 D14 D15 D16 D17 D18 D19 D20 D21 D22
end K5

open PySem PySem.W
      PyProof.Rows
set_option
      maxRecDepth 100000 in
set_option maxHeartbeats 0 in
theorem PySem.Challenge.cw_hullrests_k35_whole_remainders_holds : PySem.Challenge.rw_hullrests_k35_whole_remainders.Holds := by
  w_on; o_law; k_head;
        (case hw => w_witness2)
  k_fill
  refine K5.walk5 (l := PySem.Challenge.rw_hullrests_k35_whole_remainders) rfl rfl (fun w h Y => PySem.W.kIn_of Y) ?F
  case F =>
    intro w mg fa h KX G hmg
    have T : K5.Bl mg := by
      refine' ⟨PySem.W.mg_none_of KX G ?_, PySem.W.mg_none_of KX G ?_, PySem.W.mg_none_of KX G ?_, PySem.W.mg_none_of KX G ?_, PySem.W.mg_none_of KX G ?_, PySem.W.mg_none_of KX G ?_, PySem.W.mg_none_of KX G ?_, PySem.W.mg_none_of KX G ?_, PySem.W.mg_none_of KX G ?_, PySem.W.mg_none_of KX G ?_, PySem.W.mg_none_of KX G ?_, PySem.W.mg_none_of KX G ?_, PySem.W.mg_none_of KX G ?_, PySem.W.mg_none_of KX G ?_, PySem.W.mg_none_of KX G ?_, PySem.W.mg_none_of KX G ?_⟩ <;> k_is
    have mG : mg "gcd" = some (.builtin "math.gcd") := by
      refine' PySem.W.mg_of KX G ?_
      k_is
    refine' K5.law_all KX G hmg T mG
      (Ur.fnd_mk (x := "sign_of") (st := K5.sSign) (ps := K5.p_num) KX G ?a0 ?l0 ?c0 ?k0 (fun _ _ _ _ _ _ us hl => match us, hl with | [_], _ => rfl))
      (Ur.fnd_mk (x := "common_divisor") (st := K5.sCom) (ps := K5.p_common_divisor) KX G ?a1 ?l1 ?c1 ?k1 (fun _ _ _ _ _ _ us hl => match us, hl with | [_], _ => rfl))
      (Ur.fnd_mk (x := "is_whole") (st := K5.sWhole) (ps := K5.n_is_whole) KX G ?a2 ?l2 ?c2 ?k2 (fun _ _ _ _ _ _ us hl => match us, hl with | [_], _ => rfl))
      (Ur.fnd_mk (x := "wholes_fit") (st := K5.sWholes) (ps := K5.p_wholes_fit) KX G ?a3 ?l3 ?c3 ?k3 (fun _ _ _ _ _ _ us hl => match us, hl with | [_], _ => rfl))
      (Ur.fnd_mk (x := "numbers_fit") (st := K5.sNumsF) (ps := K5.n_value) KX G ?a4 ?l4 ?c4 ?k4 (fun _ _ _ _ _ _ us hl => match us, hl with | [_], _ => rfl))
      (Ur.fnd_mk (x := "row_fits") (st := K5.sRowF) (ps := K5.n_value) KX G ?a5 ?l5 ?c5 ?k5 (fun _ _ _ _ _ _ us hl => match us, hl with | [_], _ => rfl))
      (Ur.fnd_mk (x := "check_row") (st := K5.sChkR) (ps := K5.n_value) KX G ?a6 ?l6 ?c6 ?k6 (fun _ _ _ _ _ _ us hl => match us, hl with | [_], _ => rfl))
      (Ur.fnd_mk (x := "trimmed") (st := K5.sTrim) (ps := K5.p_trimmed) KX G ?a7 ?l7 ?c7 ?k7 (fun _ _ _ _ _ _ us hl => match us, hl with | [_], _ => rfl))
      (Ur.fnd_mk (x := "row_shortest") (st := K5.sRShort) (ps := K5.p_r) KX G ?a8 ?l8 ?c8 ?k8 (fun _ _ _ _ _ _ us hl => match us, hl with | [_], _ => rfl))
      (Ur.fnd_mk (x := "row_division") (st := K5.sRDiv) (ps := K5.p_ro) KX G ?a9 ?l9 ?c9 ?k9 (fun _ _ _ _ _ _ us hl => match us, hl with | [_, _], _ => rfl))
      (Ur.fnd_mk (x := "row_remainder") (st := K5.sRRem) (ps := K5.p_ro) KX G ?a10 ?l10 ?c10 ?k10 (fun _ _ _ _ _ _ us hl => match us, hl with | [_, _], _ => rfl))
      (Ur.fndR_mk (x := "remainder") (st := K5.sRemn) (ps := K5.p_ro) KX G ?a11 ?l11 ?c11 ?k11 (fun _ _ _ _ _ _ us hl => match us, hl with | [_, _], _ => rfl) (fun _ _ _ _ _ _ ws hl => match ws, hl with | [_, _], _ => rfl))
      (Ur.fnd_mk (x := "_law_pot") (st := K5.sPot) (ps := K5.p_pot) KX G ?a12 ?l12 ?c12 ?k12 (fun _ _ _ _ _ _ us hl => match us, hl with | [_, _], _ => rfl))
      (Ur.fnd_mk (x := "_law_draw") (st := K5.sDraw) (ps := K5.pDraw) KX G ?a13 ?l13 ?c13 ?k13 (fun _ _ _ _ _ _ us hl => match us, hl with | [_, _], _ => rfl))
      (Ur.fnd_mk (x := "_law_of") (st := K5.sOf) (ps := K5.p_of) KX G ?a14 ?l14 ?c14 ?k14 (fun _ _ _ _ _ _ us hl => match us, hl with | [_, _], _ => rfl))
      (Ur.fnd_mk (x := "_law_from") (st := K5.sFrom) (ps := K5.p_from) KX G ?a15 ?l15 ?c15 ?k15 (fun _ _ _ _ _ _ us hl => match us, hl with | [_, _, _], _ => rfl))
      (Ur.fnd_mk (x := "_law_common") (st := K5.sLCom) (ps := K5.p_lcom) KX G ?a16 ?l16 ?c16 ?k16 (fun _ _ _ _ _ _ us hl => match us, hl with | [_], _ => rfl))
      (Ur.fnd_mk (x := "_law_short") (st := K5.sLShort) (ps := K5.p_some) KX G ?a17 ?l17 ?c17 ?k17 (fun _ _ _ _ _ _ us hl => match us, hl with | [_], _ => rfl))
      (Ur.fnd_mk (x := "_law_trim") (st := K5.sLTrim) (ps := K5.p_some) KX G ?a18 ?l18 ?c18 ?k18 (fun _ _ _ _ _ _ us hl => match us, hl with | [_], _ => rfl))
      (Ur.fnd_mk (x := "_law_added") (st := K5.sLAdded) (ps := K5.p_lot) KX G ?a19 ?l19 ?c19 ?k19 (fun _ _ _ _ _ _ us hl => match us, hl with | [_, _], _ => rfl))
      (Ur.fnd_mk (x := "_law_multiplied") (st := K5.sLMult) (ps := K5.p_lot) KX G ?a20 ?l20 ?c20 ?k20 (fun _ _ _ _ _ _ us hl => match us, hl with | [_, _], _ => rfl))
      (Ur.fnd_mk (x := "_law_row") (st := K5.sLRow) (ps := K5.p_lrow) KX G ?a21 ?l21 ?c21 ?k21 (fun _ _ _ _ _ _ us hl => match us, hl with | [_, _], _ => rfl))
      (Ur.fnd_mk (x := "_law_right") (st := K5.sRight) (ps := K5.p_law_right) KX G ?a22 ?l22 ?c22 ?k22 (fun _ _ _ _ _ _ us hl => match us, hl with | [_], _ => rfl))
      ?a ?l ?c ?k
    (case a0 => k_is); (case l0 => k_is); (case c0 => k_is); (case k0 => k_is)
    (case a1 => k_is); (case l1 => k_is);
          (case c1 => k_is); (case k1 => k_is)
    (case a2 => k_is); (case l2 => k_is);
          (case c2 => k_is); (case k2 => k_is)
    (case a3 => k_is); (case l3 => k_is);
          (case c3 => k_is); (case k3 => k_is)
    (case a4 => k_is); (case l4 => k_is);
          (case c4 => k_is); (case k4 => k_is)
    (case a5 => k_is); (case l5 => k_is); (case c5 => k_is); (case k5 => k_is)
    (case a6 => k_is); (case l6 => k_is); (case c6 => k_is); (case k6 => k_is)
    (case a7 => k_is); (case l7 => k_is); (case c7 => k_is); (case k7 => k_is)
    (case a8 => k_is); (case l8 => k_is); (case c8 => k_is); (case k8 => k_is)
    (case a9 => k_is); (case l9 => k_is); (case c9 => k_is); (case k9 => k_is)
    (case a10 => k_is); (case l10 => k_is); (case c10 => k_is); (case k10 => k_is)
    (case a11 => k_is); (case l11 => k_is); (case c11 => k_is); (case k11 => k_is)
    (case a12 => k_is); (case l12 => k_is); (case c12 => k_is); (case k12 => k_is)
    (case a13 => k_is); (case l13 => k_is); (case c13 => k_is); (case k13 => k_is)
    (case a14 => k_is); (case l14 => k_is); (case c14 => k_is); (case k14 => k_is)
    (case a15 => k_is); (case l15 => k_is); (case c15 => k_is); (case k15 => k_is)
    (case a16 => k_is); (case l16 => k_is); (case c16 => k_is); (case k16 => k_is)
    (case a17 => k_is); (case l17 => k_is); (case c17 => k_is); (case k17 => k_is)
    (case a18 => k_is); (case l18 => k_is); (case c18 => k_is); (case k18 => k_is)
    (case a19 => k_is); (case l19 => k_is); (case c19 => k_is); (case k19 => k_is)
    (case a20 => k_is); (case l20 => k_is); (case c20 => k_is); (case k20 => k_is)
    (case a21 => k_is); (case l21 => k_is); (case c21 => k_is); (case k21 => k_is)
    (case a22 => k_is); (case l22 => k_is); (case c22 => k_is); (case k22 => k_is)
    (case a => k_is); (case l => k_is); (case c => k_is); (case k => k_is)
#print axioms PySem.Challenge.cw_hullrests_k35_whole_remainders_holds

