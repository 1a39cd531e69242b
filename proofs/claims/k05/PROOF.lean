import PyProof.Rows.All
import Wide.All
import OpenK.AllK
import Wide.FinOn
import PyProof.EqAt
import PyProof.EqKinds
import PyProof.TupleCall
import HandS.Base
import HandS.Call
import HandS.List
import HandS.Comp
import HandS.Ends
import HandS.Words
import PyProof.ReprRoads
import HandS.Dict
import HandS.Iter
import HandS.Text
import HandS.WordsList
import HandS.Conv
import HandS.IsInst
import HandS.Gcd
import HandS.Wide
import HandS.Defaults
import HandS.Rev
import HandS.Walk
import KE.GoesEnum
import HandS.Style
import HandS.SortRule
import HandS.Deep
import HandS.More
import HandS.Flow
import HandS.TupAny
import HandS.TupMul
import PySem.Challenge.RW_hullrests_k05_whole_sections_and_polygon
set_option Elab.async false
set_option linter.all false
set_option maxRecDepth 100000
namespace Ur
open PySem L2

def nums (a b c : Int) : List V := [.int a, .int b, .int c]
structure Bd (a b c : Int) : Prop where
  a0 : 0 ≤ a
  b0 : 0 ≤ b
  b1 : b < 4294967296
  c0 : 0 ≤ c
  c1 : c < 4294967296
/-- an urn: a list of three numbers within bounds, whichever -/
def UrnO (u : Addr) : HO := .ext fun h => ∃ (a b c : Int) (its : List Value) (n : Nat), Bd a b c ∧ Vals (nums a b c) its ∧ h.get? u = some { cls := .type "list", data := .seq its.toArray n }

section
variable {X : Cx} {pins : List (Addr × Obj)} {σ : L2.St} {H : Hp} {s : Shared} {u : Addr}
theorem urnOpen (I : Inv X pins σ H s) (h : H u = some (UrnO u)) : ∃ a b c, Bd a b c ∧ Inv X pins σ (upd H u (.lst (nums a b c))) s := by
  obtain ⟨⟨a, b, c, its, n, B, r, e⟩, _⟩ := I.hok u _ h
  refine ⟨a, b, c, B, I.write (x := u) (e := u) (t' := s.toks) (h' := s.heap) (by rw [h]; exact trivial) (.inl rfl) (fun b v _ q => q) ⟨_, e⟩ ?_⟩
  exact ⟨by show 3 ≤ sizeLine; decide, its, n, r, e⟩
theorem urnShut {a b c : Int} (I : Inv X pins σ H s) (h : H u = some (.lst (nums a b c))) (B : Bd a b c) : Inv X pins σ (upd H u (UrnO u)) s := by
  obtain ⟨_, its, n, r, e⟩ := I.hok u _ h
  refine I.write (x := u) (e := u) (t' := s.toks) (h' := s.heap) (by rw [h]; exact trivial) (.inl rfl) (fun b v _ q => q) ⟨_, e⟩ ?_
  exact ⟨⟨a, b, c, its, n, B, r, e⟩, ⟨_, e⟩, fun h1 h2 ⟨a, b, c, its, n, B, r, e⟩ k => ⟨a, b, c, its, n, B, r, k _ e⟩⟩
end
theorem upd_back {H : Hp} {u : Addr} {o p : HO} (h : H u = some o) : upd (upd H u p) u o = H := by
  funext b
  by_cases e : b = u
  · rw [e, upd_same, h]
  · rw [upd_ne e, upd_ne e]

def Shut (u : Addr) (Q : Hp → Prop) (H : Hp) : Prop := ∃ a b c, Bd a b c ∧ H u = some (.lst (nums a b c)) ∧ Q (upd H u (UrnO u))
/-- the statements run while the urn is seen as a list -/
def tUrn (t : TS) : TS := fun D σ H => ∃ u, H u = some (UrnO u) ∧ ∀ a b c, Bd a b c → t ⟨fun σ' H' => Shut u (D.nx σ') H', fun v H' => Shut u (D.rt v) H', fun σ' H' => Shut u (D.bk σ') H', fun σ' H' => Shut u (D.ct σ') H'⟩ σ (upd H u (.lst (nums a b c)))
def tShut (t : TE) : TE := fun σ H Q => t σ H fun v H1 => ∃ u, v = .ref u ∧ Shut u (Q v) H1
section
variable {X : Cx}
theorem pss_urn {sts : List Stmt} {t : TS} (h : PSs X sts t) : PSs X sts (tUrn t) := by
  refine ⟨fun pins s
        σ H D I hw => ?_⟩
  obtain ⟨u, hu, hw⟩ := hw
  obtain ⟨a, b, c, B, I1⟩ := urnOpen I hu
  refine thn (h.run pins s σ _ _ I1 (hw a b c B)) fun f s1 q => ?_
  cases f with
  | next => obtain ⟨σ', H', I2, a, b, c, B, e, q⟩ := q; exact ⟨σ', _, urnShut I2 e B, q⟩
  | brk => obtain ⟨σ', H', I2, a, b, c, B, e, q⟩ := q; exact ⟨σ', _, urnShut I2 e B, q⟩
  | cont => obtain ⟨σ', H', I2, a, b, c, B, e, q⟩ := q; exact ⟨σ', _, urnShut I2 e B, q⟩
  | ret v => obtain ⟨x, σ', H', I2, r, a, b, c, B, e, q⟩ := q; exact ⟨x, σ', _, urnShut I2 e B, r, q⟩
theorem pe_shut {e : Expr} {t : TE} (h : PE X e t) : PE X e (tShut t) := by
  refine ⟨fun pins s
        σ H Q I hw => ?_⟩
  refine thn (h.run pins s σ _ _ I hw) fun v s1 ⟨x, H1, I2, r, u, e1, a, b, c, B, e2, q⟩ => ?_
  exact ⟨x, _, urnShut I2 e2 B, r, q⟩
/-- repr of data -/
def rRepr (K : PySem.W.Frag) : List V → Hp → VK → Prop := fun xs H Q => ∃ (a : Addr) (d : PyData), xs = [.ref a] ∧ Dp K H (.ref a) d ∧ d.showable = true ∧ d.hasDict = false ∧ d.shown.length ≤ sizeLine ∧ d.depth ≤ 60 ∧ Q (.str d.shown) H
end
end Ur
namespace Ur
open PySem L2
section
variable {X : Cx}
theorem call_repr (hg : X.A.guards = some []) (hu : X.A.units + 64 < cLine) : CallR X (.builtin "repr") (rRepr X.K) := by
  intro pins s σ
        H xs us Q I r h
  obtain ⟨a, d, rfl, hd, h1, h2, h3, h4, q⟩ := h
  cases r with
  | cons ra rn =>
    cases rn
    obtain rfl := (show _ = Value.ref a from ra)
    obtain ⟨as, hr⟩ := Dp.reads I d _ _ hd rfl
    exact repr_of_reads' hr h1 (fun z => by rw [h2] at z; cases z) hg (by omega) (fun b o e => e) (fun h' u tk hk => ⟨.str d.shown, H, I.kept hk, ⟨u, rfl⟩, q⟩) h3
end
/-- a def's promise where no repr runs around it -/
structure FnG (P : Program) (w : World) (K : PySem.W.Frag) (mg : Str → Option Value) (base : Heap) (CX : CXT) (k : Nat) (f : Addr) (fd : FuncData) (ps : List Str) (sp : Sp) : Prop where
  lens : ∀ vs H Q E, sp vs H Q E → vs.length = ps.length
  go : ∀ (A : Around) (outer : List Env) (s : Shared) (H : Hp) (args : Args) (us : List Value) (vs : List V) (Q : VK) (E : XK), A.guards = some [] → Room k A → Env0 P w K mg base A outer s H →
    BindsTo s fd args (ps.zip us) → Vals vs us → sp vs H Q E → codeAny (model P w) A (.call (.ref f) args) (CR CX outer P w H s Q E) s
section
variable {X : Cx} {CX : CXT} {k : Nat} {f : Addr} {fd : FuncData} {ps : List Str} {sp : Sp} {E : XK} {ds : List Value} {dvs : List V}
theorem callG {x : Str} {p pos : Pos} {e : Expr} {es : List Expr} {t : TA} (F : FnG X.prog X.w X.K X.mg X.base CX k f fd ps sp) (hg : X.A.guards = some []) (hr : Room k X.A) (hgl : Gl X x) (hm : X.mg x = some (.ref f))
    (hk : PySem.W.keepIn X.K (.ref f) = true) (hb : Binds X.K fd ps []) (hx : Passes CX X E) (ha : PA X (e :: es) t) (hdb : (x == ("__debug__" : Str)) = false := by decide)
    (he : starEach (e :: es) X.env = (false, eval e X.env) :: starEach es X.env :=
          by rfl) (hpl : (backTo pos (starEach es X.env)).any (·.1) = false := by rfl) :
    PE X (.Call (.Name x p) (e :: es) [] pos) (tCall sp [] E t) := by
  constructor
  intro pins s σ H Q I h
  apply wpAny_Call_Name_kw
  apply ld_glob I hgl hm _ hdb
  apply PySem.W.callWith_K (h₀ := X.base) I.ok.mod.kin hk _ he hpl
  refine thn (ha.run pos pins s σ H _ I h) ?_
  rintro us s1 ⟨vs, H1, I1, r, q⟩
  refine ⟨I1.kIn, ?_⟩
  have q' : sp vs H1 Q E := by simpa using q
  have hl : us.length = ps.length := by
    rw [← r.length]
    exact F.lens _ _ _ _ q'
  have b1 : BindsTo s1 fd ⟨us, []⟩ (ps.zip us) := by simpa using hb s1 us I1.kIn (by simpa using hl)
  apply wpAny_call
  refine codeAny_mono (F.go X.A X.stack s1 H1 ⟨us, []⟩ us vs Q E hg hr I1.env0 b1 r q') ?_
  intro res s' hq
  match res, hq with
  | .error e, hq => exact hx pins σ H1 s1 e s' I1 hq
  | .ok (.ret u), hq => exact I1.after hq
end
end Ur

namespace Ur
open PySem L2 PyProof.Rows
section
variable {P : Program} {w : World} {K :
      PySem.W.Frag} {mg : Str → Option Value} {base : Heap}
/-- the rule for a def that asks that no repr runs around it -/
theorem okG {x qual : Str} {st : Stmt} {f : Addr} {fd : FuncData} {N ps : List Str} {k : Nat} {sp : Sp} (F : Fun K x qual st f fd) (S : FnScope N ps (defScope st))
    (len : ∀ vs H Q E, sp vs H
          Q E → vs.length = ps.length)
    (body : ∀ (cdv : Value) (A : Around) (outer : List Env) (s : Shared) (H : Hp) (vs : List V) (Q : VK) (E : XK), A.guards = some [] → Room k (A.deeper (envOfC qual (defScope st) s.heap.objs.size f cdv)) →
      sp vs H Q E → ∃ t, PSs (cxOf CX0 P w K mg base N qual (defScope st) f cdv A outer s H E).nox (defBody st) t ∧ t { nx := fun _ H' => Q .non H', rt := Q } (start N vs) H) :
    FnG P w K mg base CX0 (k + 1) f fd ps sp := by
  obtain ⟨oc, od, kV, doc, pm, an,
        cdv, ct, osl, rfl, lk, hcd⟩ := F.ex
  refine ⟨len, ?_⟩
  intro A outer s H args us vs Q E hg hr e0 hb r hsp
  have old : ∀ b o, base.get? b = some o → s.heap.get? b = some o := fun b o e => (e0.bs b o e).1
  have KX := e0.mod.kin.keeps old
  apply codeAny_call_function hr.depth (KX _ _ lk) rfl S.co S.gen rfl (PySem.W.codeRec_of KX hcd)
  apply hb
  apply wpAny_newFunctionEnv_cells S.kind
  · rintro ⟨n, v⟩ hy
    have hn := (List.of_mem_zip hy).1
    cases S.par n hn with
    | inl q => exact Or.inl q
    | inr q => exact Or.inr ⟨q, PySem.W.cellsFrom_some _ _ _ (Or.inl q)⟩
  intro env he s1 x
  subst he
  refine ⟨(e0.mod.nolimit.keeps old).keeps x.toInCall.keep, ?_⟩
  apply codeAny_func
  obtain ⟨t, ht, hq⟩ := body cdv A outer s H vs Q E hg (hr.deeper _) hsp
  have I := inv_start (CX := CX0) (E := E) S hr.hd e0 (len _ _ _ _ hsp) r x
  refine wpAny_mono (ht.nox.run [] s1 (start N vs) H _ I hq) ?_ (fun _ _ z => z)
  intro fl s' hs
  match fl, hs with
  | .ret u, ⟨v, _, H', J, rv, q⟩ => exact ⟨v, H', J.os, J.bare, J.base, J.hok, rv, q⟩
  | .next, ⟨_, H', J, q⟩ => exact ⟨V.non, H', J.os, J.bare, J.base, J.hok, rfl, q⟩
  | .brk, ⟨_, _, _, q⟩ => exact False.elim q
  | .cont, ⟨_, _, _, q⟩ => exact False.elim q
end
end Ur

namespace Ur
open PySem L2 PyProof.Rows
section
variable {P : Program} {w : World} {K : PySem.W.Frag} {mg mb : Str → Option Value} {k : Nat} {fa a : Addr} {fd : FuncData} {x : Str} {sp : Sp} {s1 : Shared} {vs : List Value} {ns : List Int}
abbrev Goes (fa a : Addr) (P : Program) (w : World) (s1 : Shared) : Prop :=
  codeAny (model P w) callerA (.call (.ref fa) ⟨[.ref a], []⟩) (fun r s' => r = .ok (.ret (.bool true)) ∧ OldK s1.heap s'.heap ∧ s'.os = s1.os ∧ AllBare s'.gens) s1
/-- from an abstract heap that tracks the script at most -/
theorem goes_of {H : Hp} (KX : K.In s1.heap) (hns : s1.heap.Ns mainGlobals mg) (hb : s1.heap.Ns builtinsNs mb) (hbb : ∀ y : Str, y ≠ "__name__" → mb y = bootBuiltins y) (hlim : s1.heap.NoLimit) (hg : s1.gens = #[])
    (ha : s1.heap.get? a = some { cls := .type "list", data := .seq vs.toArray }) (hr : Room k callerA)
    (F : ∀ base : Heap, K.In base → base.Ns mainGlobals mg → FnG P w K mg base CX0 k fa fd [x] sp) (bind : ∀ (s : Shared) (u : Value), BindsTo s fd ⟨[u], []⟩ [(x, u)])
    (hok : HOk P w H s1.heap) (hsp : sp [.ref a] H (fun v _ => v = .bl true) fun _ _ _ => False)
    (one : ∀ b, H b = none ∨ (b = a ∧ K.lookup a = none ∧ ∃ o ys, H b = some (.frz o (.lst ys)))) : Goes fa a P w s1 := by
  have seen : ∀ {b o}, s1.heap.get? b = some o → H b = none → (hidT s1.heap H).get? b = some o := fun e z => hidT_get e z
  have notD : ∀ {b o es ep}, s1.heap.get? b = some o → o.data = .dict es ep → H b = none := by
    intro b o es ep e d
    rcases one b with z | ⟨rfl, _, _⟩
    · exact z
    · rw [ha] at e
      obtain rfl := Option.some.inj e
      cases (show Data.seq vs.toArray _ = Data.dict es ep from d)
  have up : ∀ {b m}, s1.heap.Ns b m → (hidT s1.heap H).Ns b m := by
    rintro b m ⟨o, es, ep, e, d, r⟩
    exact ⟨o, es, ep, seen e (notD e d), d, r⟩
  have KB : K.In (hidT s1.heap H) := by
    intro b o e
    refine seen (KX b o e) ?_
    rcases one b with z | ⟨rfl, z, _⟩
    · exact z
    · rw [z] at e; cases e
  obtain ⟨mc, l1, l2⟩ := hlim
  have M : Mod K mg (hidT s1.heap H) := { kin := KB, glob := up hns, blt := ⟨mb, up hb, hbb⟩, nolimit := ⟨mc, up l1, l2⟩ }
  have e0 : Env0 P w K mg (hidT s1.heap H) callerA [] s1 H :=
    { frames := rfl, mod := M, bs := fun b o e => of_hidT e, bsz := Nat.le_of_eq (hidT_size _ _), funs := trivial, frf := fun b z => (by cases (show b ∈ ([] : List Addr) from z)), hok := hok, bare := .of_eq hg }
  refine codeAny_mono ((F _ KB (up hns)).go callerA [] s1 H ⟨[.ref a], []⟩ [.ref a] [.ref a] _ _ rfl hr e0 (bind s1 (.ref a)) (.cons rfl .nil) hsp) ?_
  intro r s' h
  match r, h with
  | .ok (.ret u), ⟨v, H', os, bare, un, hok', rv, hv⟩ =>
    obtain rfl : v = .bl true := hv
    obtain rfl : u = Value.bool true := rv
    refine ⟨rfl, OldK.of_keep ?_, os, bare⟩
    intro b o e
    rcases one b with z | ⟨rfl, _, oo, ys, z⟩
    · exact un.keep b o e z (fun q => (by cases (show b ∈ ([] : List Addr) from q))) (fun q => nomatch q)
    · have e1 := (hok b _ z).1
      have e2 := (hok' b _ (un.frzs b oo _ z)).1
      rw [e] at e1
      obtain rfl :=
            Option.some.inj e1
      exact e2
theorem goes (KX : K.In s1.heap) (hns : s1.heap.Ns mainGlobals mg) (hb : s1.heap.Ns builtinsNs mb) (hbb : ∀ y : Str, y ≠ "__name__" → mb y = bootBuiltins y) (hlim : s1.heap.NoLimit) (hg : s1.gens = #[])
    (ha : s1.heap.get? a = some { cls := .type "list", data := .seq vs.toArray }) (hi : IntsAre vs ns) (hl : ns.length ≤ sizeLine) (hr : Room k callerA)
    (F : ∀ base : Heap, K.In base → base.Ns mainGlobals mg → FnG P w K mg base CX0 k fa fd [x] sp) (bind : ∀ (s : Shared) (u : Value), BindsTo s fd ⟨[u], []⟩ [(x, u)])
    (hsp : ∀ H : Hp, SqL K H a (ns.map V.int) → sp [.ref a] H (fun v _ => v = .bl true) fun _ _ _ => False) : Goes fa a P w s1 := by
  have rv := vals_ints hi
  cases hk : K.lookup a with
  | some o =>
    have e := KX a o hk
    rw [ha] at e
    obtain rfl := Option.some.inj e
    refine goes_of (H := fun _ => none) KX hns hb hbb hlim hg ha hr F bind (fun b u z => nomatch z) (hsp _ (Or.inr ⟨_, vs.toArray, _, hk, rfl, rfl, rfl, ?_, ?_⟩)) (fun b => Or.inl rfl)
    · rw [List.size_toArray, hi.length]; exact hl
    · exact rv
  | none =>
    let o : Obj := { cls := .type "list", data := .seq vs.toArray }
    let H : Hp := upd (fun _ => none) a (.frz o (.lst (ns.map V.int)))
    have hH : H a = some (.frz o (.lst (ns.map V.int))) := upd_same
    refine goes_of (H := H) KX hns hb hbb hlim hg ha hr F bind ?_ (hsp H (Or.inl (Or.inr ⟨o, hH⟩))) ?_
    · intro b u z
      by_cases e : b = a
      · subst e
        rw [hH] at z
        obtain rfl := Option.some.inj z
        refine ⟨ha, ?_, vs, _, rv, ha⟩
        rw [List.length_map]
        exact hl
      · rw [show H b = none from upd_ne e] at z
        cases z
    · intro b
      by_cases e : b = a
      · exact Or.inr ⟨e, hk, o, _, by rw [e]; exact hH⟩
      · exact Or.inl (upd_ne e)
end
theorem walkG {l : PySem.W.OpenLaw} {n k : Nat} {q : Program} {loose : List Str} {XP : (Str → Option Value) → Heap → Prop} {YP : World → Heap → Prop} {d : DefRec} {K : Params → PySem.W.Frag} {sp : PySem.W.Frag → Sp} {x : Str}
    (hn : l.most = some n) (hn2 : n ≤ sizeLine) (hdf : d.params.defaults = []) (hr
          : Room k callerA) (hY : ∀ (w : World) (h : Heap), YP w h → (K w.params).In h)
    (F : ∀ (w : World) (mg : Str → Option Value) (fa : Addr) (h : Heap),
          (K w.params).In h → h.Ns mainGlobals mg → mg d.name = some (.ref fa) →
      ∃ fd : FuncData, (∀ (s : Shared) (u : Value), BindsTo s fd ⟨[u], []⟩ [(x, u)]) ∧ ∀ base : Heap, (K w.params).In base → base.Ns mainGlobals mg → FnG l.prog w (K w.params) mg base CX0 k fa fd [x] (sp (K w.params)))
    (hsp : ∀ (K : PySem.W.Frag) (H : Hp) (a : Addr) (ns : List Int), ns.length ≤ n → SqL K H a (ns.map V.int) → sp K [.ref a] H (fun v _ => v = .bl true) fun _ _ _ => False) :
    PySem.W.WalkO q loose XP YP l.row.toRowW
          d [] (fun f vs => PySem.call f vs) := by
  apply Att.attach_call hn hdf
  intro w s0 s1 mg mb fa o pm cd doc a vs ns G Y ho hd hcd hmg hobj hints hlen hg
  obtain ⟨fd, hb, hF⟩ := F w mg fa _ (hY w _ Y) G.T.g hmg
  exact goes (hY w _ Y) G.T.g G.T.b G.T.builtins G.T.nolimit hg hobj hints (Nat.le_trans hlen hn2) hr hF hb fun H hS => hsp _ H a ns hlen hS
end Ur

namespace Ur
open PySem L2
/-- the def of this name keeps this promise -/
def Has (P : Program) (w : World) (K : PySem.W.Frag) (mg : Str → Option Value) (base : Heap) (x : Str) (ps : List Str) (k : Nat) (sp : Sp) : Prop :=
  ∃ f fd, FnOk P w K mg base CX0 k f fd ps sp ∧ mg x = some (.ref f) ∧ PySem.W.keepIn K (.ref f) = true ∧ Binds K fd ps []
/-- the def stands there -/
def Fnd (K : PySem.W.Frag) (mg : Str → Option Value) (x : Str) (st : Stmt) (ps : List Str) : Prop :=
  ∃ f fd, Fun K x x st f fd ∧ mg x = some (.ref f) ∧ Binds K fd ps []
def KwAll (K : PySem.W.Frag) (fd : FuncData) (ps : List Str) : Prop := KBinds K fd ps ps (fun us ws => us ++ ws) (fun vs zs => vs ++ zs)
section
variable {X : Cx} {x : Str} {p pos : Pos} {e : Expr} {es : List Expr} {t tk : TA} {ps : List Str} {k : Nat} {sp : Sp} {kws : List Keyword}
theorem pe_has (h : Has X.prog X.w X.K X.mg X.base x ps k sp) (hr : Room k X.A) (hg : Gl X x) (ha : PA X (e :: es) t) (hdb : (x == ("__debug__" : Str)) = false := by decide)
    (he : starEach (e :: es) X.env = (false, eval e X.env) :: starEach es X.env :=
          by rfl) (hpl : (backTo pos (starEach es X.env)).any (·.1) = false := by rfl) :
    PE X (.Call (.Name x p) (e :: es) [] pos) (tCall sp [] E0 t) := by
  obtain ⟨f, fd, G, m, kp, b⟩ := h
  exact pe_call G hr hg m kp b .nil pass0 ha hdb he hpl
def tHasK (sp : Sp) (tk : TA) : TE := fun σ H Q => tk σ H fun zs H1 => sp zs H1 Q E0
/-- all arguments by name, in their order -/
theorem pe_hasK0 (h : ∃ f fd, FnOk X.prog X.w X.K X.mg X.base CX0 k f fd ps sp ∧ X.mg x = some (.ref f) ∧ PySem.W.keepIn X.K (.ref f) = true ∧ KwAll X.K fd ps) (hr : Room k X.A) (hg : Gl X x) (hkw : PK X kws tk)
    (hall : (backToKw pos (keywordEach kws X.env)).all (·.1.isSome) = true := by rfl) (hks : (backToKw pos (keywordEach kws X.env)).filterMap (·.1) = ps := by rfl) (hdb : (x == ("__debug__" : Str)) = false := by decide)
    (hpl : ((backTo pos (starEach [] X.env)).any (·.1) || (backToKw
          pos (keywordEach kws X.env)).any (·.1.isNone)) = false := by rfl) :
    PE X (.Call (.Name x p) [] kws pos) (tHasK sp tk) := by
  obtain ⟨f, fd, G, m, kp, b⟩ := h
  constructor
  intro pins s σ H Q I hq
  apply wpAny_Call_Name_kw
  apply ld_glob I hg m _ hdb
  apply PySem.W.callWith_KW0 (h₀ := X.base) I.ok.mod.kin kp hall _ hpl
  refine thn (hkw.run pos pins s σ H _ I hq) ?_
  rintro ws s2 ⟨zs, H2, I2, rz, q2⟩
  refine ⟨I2.kIn, ?_⟩
  rw [hks]
  exact run_fnk (us := []) (vs := []) G hr b pass0 I2 .nil rz q2
end
end Ur

namespace Ur
open PySem L2
theorem same_new {H : Hp} {p : Addr} {o : HO} (h : H p = none) : Same H (upd H p o) := fun a u e => by
  rw [upd_ne (ne_of_none e h)]
  exact e
/-- a list that H does not know may grow -/
theorem same_own {H H' : Hp} {p : Addr} {o : HO} (e : Same H H') (h : H p = none) : Same H (upd H' p o) := fun a u q => by
  rw [upd_ne (ne_of_none q h)]
  exact e a u q
theorem same_sqT {K : PySem.W.Frag} {H H' : Hp} {a : Addr} {xs : List V} (e : Same H H') (h : SqT K H a xs) : SqT K H' a xs := by
  rcases h with (h
        | ⟨o, h⟩) | h
  · exact Or.inl (Or.inl (e _ _ h))
  · exact Or.inl (Or.inr ⟨o, e _ _ h⟩)
  · exact Or.inr h
theorem map_at {ns : List Int} {i : Nat} {x : V} (h : (ns.map V.int)[i]? = some x) : ∃ z, ns[i]? = some z ∧ x = V.int z := by
  rw [List.getElem?_map] at h
  cases e : ns[i]? with
  | none => rw [e]
        at h; cases h
  | some z => rw [e] at h; exact ⟨z, rfl, (Option.some.inj h).symm⟩
/-- what a comprehension without a test has made behind i turns -/
structure Made (H : Hp) (Pe : Nat → V → Prop) (D : Addr) (i : Nat) (H' : Hp) : Prop where
  new : H D = none
  same : Same H H'
  held : ∃ ys, H' D = some (.lst ys) ∧ ys.length = i ∧ ∀ j y, ys[j]? = some y → Pe j y
theorem Made.start {H : Hp} {Pe : Nat → V → Prop} {D : Addr} (h : H D = none) : Made H Pe D 0 (upd H D (.lst [])) :=
  ⟨h, same_new h, [], upd_same, rfl, fun j y e => by simp at e⟩
theorem Made.turn {H H3 : Hp} {Pe : Nat → V → Prop} {D : Addr} {i : Nat} {te : TE} {σ2 : L2.St} (m : Made H Pe D i H3) (hi : i < 100000)
    (he : ∀ Q' : VK, (∀ y H4, Pe i y → Same H3 H4 → Q' y H4) → te σ2 H3 Q') :
    te σ2 H3 fun y H4 => ∃ acc, H4 D = some (.lst acc) ∧ acc.length < sizeLine ∧ Made H Pe D (i + 1) (upd H4 D (.lst (acc ++ [y]))) := by
  obtain ⟨hn, sm, ys, h1, h2, h3⟩ := m
  refine he _ fun y H4 py s4 => ⟨ys, s4 _ _ h1, Nat.lt_of_lt_of_le (by omega : ys.length < 100000) (by decide), hn, same_own (sm.trans s4) hn, ys ++ [y], upd_same, by simp [h2], fun j z e => ?_⟩
  by_cases hj : j < ys.length
  · rw [List.getElem?_append_left hj] at e
    exact h3 j z e
  · rw [List.getElem?_append_right (by omega)] at e
    have : j = i := by
      have hl := (List.getElem?_eq_some_iff.mp e).1
      simp at hl
      omega
    subst this
    rw [← h2, Nat.sub_self] at e
    obtain rfl := Option.some.inj e
    exact py
section
variable {K : PySem.W.Frag} {a : Addr} {xs : List V} {te : TE} {vs : List Nat} {j : Nat} {σ : L2.St} {H : Hp} {Q : VK}
/-- [elt for x in t], t a tuple -/
theorem lcT {tl : TE} (Pe : Nat → V → Prop) (hx : ∀ R : VK, R (.ref a) H → tl σ H R) (hs : SqT K H a xs) (hz : xs.length ≤ 100000) (hw : ∀ x, wipe ((wipe σ vs).set j (some x)) vs = wipe σ vs)
    (he : ∀ i x H3, xs[i]? = some x → Same H H3 → ∀ Q' : VK, (∀ y H4, Pe i y → Same H3 H4 → Q' y H4) → te ((wipe σ vs).set j (some x)) H3 Q')
    (hq : ∀ D ys H', H D = none → Same H H' → H' D = some (.lst ys) → ys.length = xs.length → (∀ i y, ys[i]? = some y → Pe i y) → Q (.ref D) H') : tLc (iTup K tl) (gName j) tYes te vs σ H Q := by
  refine hx _ ⟨a, rfl, ⟨xs, hs⟩, fun D hD => ?_⟩
  refine lc_tup (xs := xs) (Made H Pe D) (.start hD) (fun i H' _ m => same_sqT m.same hs) (fun i x H' hi m => ⟨hw x, ?_⟩) (fun H' ⟨hn, sm, ys, h1, h2, h3⟩ => hq D ys H' hn sm h1 h2 h3)
  have hl := (List.getElem?_eq_some_iff.mp hi).1
  unfold tYes
  dsimp only
  rw [if_pos rfl]
  exact (m.turn (by omega) (he i x H' hi m.same))
/-- [elt for x in l], l a list -/
theorem lcL {tl : TE} (Pe : Nat → V → Prop) (hx : ∀ R : VK, R (.ref a) H → tl σ H R) (hs : SqL K H a xs) (hz : xs.length ≤ 100000) (hw : ∀ x, wipe ((wipe σ vs).set j (some x)) vs = wipe σ vs)
    (he : ∀ i x H3, xs[i]? = some x → Same H H3 → ∀ Q' : VK, (∀ y H4, Pe i y → Same H3 H4 → Q' y H4) → te ((wipe σ vs).set j (some x)) H3 Q')
    (hq : ∀ D ys H', H D = none → Same H H' → H' D = some (.lst ys) → ys.length = xs.length → (∀ i y, ys[i]? = some y → Pe i y) → Q (.ref D) H') : tLc (iList K tl) (gName j) tYes te vs σ H Q := by
  refine hx _ ⟨a, rfl, ⟨xs, hs⟩, fun D hD => ?_⟩
  refine lc_list (xs := xs) (Made H Pe D) (.start hD) (fun i H' _ m => m.same.seq hs) (fun i x H' hi m => ⟨hw x, ?_⟩) (fun H' ⟨hn, sm, ys, h1, h2, h3⟩ => hq D ys H' hn sm h1 h2 h3)
  have hl := (List.getElem?_eq_some_iff.mp hi).1
  unfold tYes
  dsimp only
  rw [if_pos rfl]
  exact (m.turn (by omega) (he i x H' hi m.same))
/-- [elt for x in range(n)] -/
theorem lcR {ta : TA} {n : Int} {H0 : Hp} (Pe : Nat → V → Prop) (hx : ∀ R : List V → Hp → Prop, (∀ H1, Same H0 H1 → R [.int n] H1) → ta σ H0 R) (h0 : 0 ≤ n) (hz : n ≤ 100000) (hw : ∀ x, wipe ((wipe σ vs).set j (some x)) vs = wipe σ vs)
    (he : ∀ (i : Nat) H3, i < n → Same H0 H3 → ∀ Q' : VK, (∀ y H4, Pe i y → Same H3 H4 → Q' y H4) → te ((wipe σ vs).set j (some (.int (0 + (i : Int))))) H3 Q')
    (hq : ∀ D ys H', H0 D = none → Same H0 H' → H' D = some (.lst ys) → (ys.length : Int) = n → (∀ i y, ys[i]? = some y → Pe i y) → Q (.ref D) H') : tLc (iRng1 ta) (gName j) tYes te vs σ H0 Q := by
  refine hx _ fun H1 s1 => ⟨n, rfl, by omega, by omega, fun D hD => ?_⟩
  refine lc_range (lo := 0) (n := n.toNat) (Made H1 Pe D) (.start hD) (fun i H' hi m => ⟨hw _, ?_⟩) (fun H' ⟨hn, sm, ys, h1, h2, h3⟩ => hq D ys H' (s1.free hn) (s1.trans sm) h1 (by omega) h3)
  unfold tYes
  dsimp only
  rw [if_pos rfl]
  exact (m.turn (by omega) (he i H' (by omega) (s1.trans m.same)))
end
end Ur
namespace Ur
open PySem L2
/-- a statement and the rest, with a word of one's own between them -/
def tMid (t u : TS) : TS := fun D σ H => ∃ M : L2.St → Hp → Prop, t { D with nx := M } σ H ∧ ∀ σ' H', M σ' H' → u D σ' H'
theorem pss_mid {X : Cx} {st : Stmt} {rest : List Stmt} {t u : TS} (h1 : PS X st t) (h2 : PSs X rest u) : PSs X (st :: rest) (tMid t u) := by
  constructor
  intro pins s σ H D I hw
  obtain ⟨M, hm, hu⟩ := hw
  apply wpAny_execs_cons
  refine thn (h1.run pins s σ H { D with nx := M } I hm) ?_
  intro f s1 q
  match f, q with
  | .next, ⟨σ', H', I', q⟩ => exact h2.run pins s1 σ' H' D I' (hu σ' H' q)
  | .ret v, q => exact q
  | .brk, q => exact q
  | .cont, q => exact q
theorem seq_of {t u : TS} {D : Ends} {σ : L2.St} {H : Hp} (h : t { D with nx := u D } σ H) : tSeq t u D σ H := h
theorem asg_of {te : TE} {g : TG} {D : Ends} {σ : L2.St} {H : Hp} (h : te σ H fun x H1 => g x σ H1 D.nx) : tAsg te g D σ H := h
theorem ixN_nat {n j : Nat} (h : j < n) : ixN n (j : Int) = some j := by
  unfold ixN
  rw [if_pos (by omega),
        if_pos (by omega)]
  rfl
end Ur

namespace Ur
open PySem L2
/-! ### values of any kind -/
inductive Kd where
  | non | bool | int | str | lst | tup | dic
  deriving DecidableEq
def Kd.nm : Kd → String
  | .non => "NoneType" | .bool => "bool" | .int => "int" | .str => "str" | .lst => "list" | .tup => "tuple" | .dic => "dict"
theorem kd_int (k : Kd) : kitB k.nm "int" = some (k == .int || k == .bool) := by cases k <;> decide +kernel
theorem kd_bool (k : Kd) : kitB k.nm "bool" = some (k == .bool) := by cases k <;> decide +kernel
theorem kd_tup (k : Kd) : kitB k.nm "tuple" = some (k == .tup) := by cases k <;> decide +kernel
def OfKd (K : PySem.W.Frag) (H : Hp) (x : V) (k : Kd) : Prop := TyX K H x (.type k.nm)
def wh : V → Bool
  | .int _ => true
  | _ => false
theorem nm_inj {k l : Kd} (h : k.nm = l.nm) : k = l := by
  cases k <;> cases l <;> first | rfl | (exact absurd h (by decide))
theorem ofKd_wh {K : PySem.W.Frag} {H : Hp} {x : V} {k : Kd} (h : OfKd K H x k) : (k == .int) = wh x := by
  have no : ∀ l : Kd, l ≠ .int → Value.type k.nm = Value.type l.nm → (k == Kd.int) = false := fun l hl e => by
    have : k = l := nm_inj (by injection e)
    subst this
    exact beq_eq_false_iff_ne.mpr hl
  have yes : Value.type k.nm = Value.type Kd.int.nm → (k == Kd.int) = true := fun e => by
    have : k = .int := nm_inj (by injection e)
    subst this
    rfl
  unfold OfKd at h
  generalize ht : Value.type k.nm = t at h
  cases h with
  | base b =>
    cases b with
    | non => exact no .non (by decide) ht
    | bl y => exact no .bool (by decide) ht
    | int i => exact yes ht
    | str y => exact no .str (by decide) ht
    | flt y =>
      have e : k.nm = "float" := by injection ht
      cases k <;> exact absurd e (by decide)
    | lst e => exact no .lst (by decide) ht
    | frz e => exact no .lst (by decide) ht
    | tup e => exact no .tup (by decide) ht
    | dK e => exact no .dic (by decide) ht
    | dT e => exact no .dic (by decide) ht
    | ins e _ _ _ _ _ => cases ht
  | byt y =>
    have e : k.nm = "bytes" := by injection ht
    cases k <;> exact absurd e (by decide)
  | set e =>
    have e : k.nm = "set" := by injection ht
    cases k <;> exact absurd e (by decide)
  | kList e c => exact no .lst (by decide) ht
  | kTuple e c => exact no .tup (by decide) ht
  | kDict e c => exact no .dic (by decide) ht
  | fTuple e => exact no .tup (by decide) ht
  | fDict e => exact no .dic (by decide) ht
theorem ofKd_same {K : PySem.W.Frag} {H H' : Hp} {x : V} {k : Kd} (s : Same H H') (h : OfKd K H x k) : OfKd K H' x k := by
  unfold OfKd at h ⊢
  generalize Value.type k.nm = t at h ⊢
  cases h with
  | base b =>
    refine .base ?_
    cases b with
    | non => exact .non
    | bl y => exact .bl y
    | int i => exact .int i
    | str y => exact .str y
    | flt y => exact .flt y
    | lst e => exact .lst (s _ _ e)
    | frz e => exact .frz (s _ _ e)
    | tup e => exact .tup (s _ _ e)
    | dK e => exact .dK (s _ _ e)
    | dT e => exact .dT (s _ _ e)
    | ins e a b c d f => exact .ins (s _ _ e) a b c d f
  | byt y => exact .byt y
  | set e => exact .set (s _ _ e)
  | kList e c => exact .kList e c
  | kTuple e c => exact .kTuple e c
  | kDict e c => exact .kDict e c
  | fTuple e => exact .fTuple (s _ _ e)
  | fDict e => exact .fDict (s _ _ e)
theorem tup_kd {K : PySem.W.Frag} {H : Hp} {a : Addr} {xs : List V} (h : SqT K H a xs) : OfKd K H (.ref a) .tup := by
  rcases h with (h | ⟨o, h⟩) | ⟨o, its, n, h, c, _⟩
  · exact .base (.tup h)
  · exact .fTuple h
  · exact .kTuple h c
theorem all_wh : ∀ {xs : List V}, xs.all wh = true → ∃ ns : List Int, xs = ns.map V.int
  | [], _ => ⟨[], rfl⟩
  | x :: r, h => by
    rw [List.all_cons,
          Bool.and_eq_true] at h
    obtain ⟨ns, rfl⟩ := all_wh h.2
    cases x with
    | int i => exact ⟨i :: ns, rfl⟩
    | _ => exact absurd h.1 (by simp [wh])
theorem ints_wh (ns : List Int) : (ns.map V.int).all wh = true := by
  rw [List.all_map]
  exact List.all_eq_true.mpr
        fun _ _ => rfl
mutual
theorem dp_same {K : PySem.W.Frag} {H H' : Hp} (s : Same H H') : ∀ {v : V} {d : PyData}, Dp K H v d → Dp K H' v d
  | _, _, .non => .non
  | _, _, .bl b => .bl b
  | _, _, .int i => .int i
  | _, _, .str x => .str x
  | _, _, .lst h1 h2 => .lst (s.seq h1) (dpAll_same s h2)
  | _, _, .tup h1 h2 => .tup (same_sqT s h1) (dpAll_same s h2)
theorem dpAll_same {K : PySem.W.Frag} {H H' : Hp} (s : Same H H') : ∀ {vs : List V} {ds : List PyData}, DpAll K H vs ds → DpAll K H' vs ds
  | _, _, .nil => .nil
  | _, _, .cons h1 h2 => .cons (dp_same s h1) (dpAll_same s h2)
end
/-- an item of such a tuple -/
structure It (K : PySem.W.Frag) (H : Hp) (y : V) : Prop where
  kd : ∃ l, OfKd K H y l
  dat : ∃ d, Dp K H y d ∧ d.canLay0 = true ∧ d.depth ≤ 8
theorem It.same {K : PySem.W.Frag} {H H' : Hp} {y : V} (s : Same H H') (h : It K H y) : It K H' y :=
  ⟨let ⟨l, a⟩ := h.kd; ⟨l, ofKd_same s a⟩, let ⟨d, a, b⟩ := h.dat; ⟨d, dp_same s a, b⟩⟩
/-- a value of any kind, seen as an argument: its kind, and its items if it is a tuple -/
structure Arg (K : PySem.W.Frag) (H : Hp) (x : V) (k : Kd) (xs : List V) : Prop where
  ty : OfKd K H x k
  its : k = .tup → ∃ a, x = .ref a ∧ SqT K H a xs ∧ xs.length ≤ 1000 ∧ (∀ y ∈ xs, It K H y) ∧ ∀ i, V.int i ∈ xs → i.natAbs < 2 ^ 9000
theorem Arg.same {K : PySem.W.Frag} {H H' : Hp} {x : V} {k : Kd} {xs : List V} (s : Same H H') (A : Arg K H x k xs) : Arg K H' x k xs :=
  ⟨ofKd_same s A.ty, fun e => let ⟨a, e1, e2, e3, e4, e5⟩ := A.its e; ⟨a, e1, same_sqT s e2, e3, fun y hy => (e4 y hy).same s, e5⟩⟩
/-! ### tuples of ints as data -/
theorem dpAll_ints {K : PySem.W.Frag} {H : Hp} : ∀ ns : List Int, DpAll K H (ns.map V.int) (ns.map PyData.int)
  | [] => .nil
  | n :: r => .cons (.int n) (dpAll_ints r)
theorem dp_ints {K : PySem.W.Frag} {H : Hp} {a : Addr} {ns : List Int} (h : SqT K H a (ns.map V.int)) : Dp K H (.ref a) (.tuple (ns.map PyData.int)) := .tup h (dpAll_ints ns)
theorem lay_ints : ∀ ns : List Int, PyData.canLayAll0 (ns.map PyData.int) = true
  | [] => rfl
  | _ :: r => by
    show (true && PyData.canLayAll0 (r.map PyData.int)) = true
    rw [lay_ints r]
    rfl
theorem depth_ints : ∀ ns : List Int, PyData.depthAll (ns.map PyData.int) = 0
  | [] => rfl
  | _ :: r => by
    show max 0 (PyData.depthAll (r.map PyData.int)) = 0
    rw [depth_ints r]
    rfl
theorem shaped_ints (ns : List Int) : SeqAt.shaped (.tuple (ns.map PyData.int)) = true := by
  unfold SeqAt.shaped
  show (PyData.canLayAll0 _ && decide (PyData.depthAll _ + 1 ≤ 64)) = true
  rw [lay_ints, depth_ints]
  rfl
theorem eqvAll_ints : ∀ a b : List Int, PyData.eqvAll (a.map PyData.int) (b.map PyData.int) = decide (a = b)
  | [], [] => rfl
  | [], _ :: _ =>
        by simp [PyData.eqvAll]
  | _ :: _, [] =>
        by simp [PyData.eqvAll]
  | x :: a, y :: b => by
    show ((x == y) && PyData.eqvAll (a.map PyData.int) (b.map PyData.int)) = _
    rw [eqvAll_ints a b]
    by_cases e : x = y
    · subst e; simp
    · simp [e]
theorem eqv_ints (a b : List Int) : PyData.eqv (.tuple (a.map PyData.int)) (.tuple (b.map PyData.int)) = decide (a = b) := eqvAll_ints a b
/-- a list of such items as data -/
theorem its_dat {K : PySem.W.Frag} {H : Hp} : ∀ {ys : List V}, (∀ y ∈ ys, It K H y) → ∃ ds, DpAll K H ys ds ∧ PyData.canLayAll0 ds = true ∧ PyData.depthAll ds ≤ 8 ∧ ds.length = ys.length
  | [], _ => ⟨[], .nil, rfl, by decide, rfl⟩
  | y :: r, h => by
    obtain ⟨d, h1, h2, h3⟩ := (h y List.mem_cons_self).dat
    obtain ⟨ds, g1, g2, g3, g4⟩ := its_dat (ys := r) fun z hz => h z (List.mem_cons_of_mem _ hz)
    refine ⟨d :: ds, .cons h1 g1, ?_, ?_, by simp [g4]⟩
    · show (PyData.canLay0 d && PyData.canLayAll0 ds) = true
      rw [h2, g2]
      rfl
    · show max (PyData.depth d) (PyData.depthAll ds) ≤ 8
      omega
/-- a comprehension with a test that keeps items as they are -/
structure Kept (H : Hp) (xs : List V) (f : V → Bool) (D : Addr) (i : Nat) (H' : Hp) : Prop where
  new : H D = none
  same : Same H H'
  held : H' D = some (.lst ((xs.take i).filter f))
theorem lcTf {K : PySem.W.Frag} {a : Addr} {xs : List V} {tl te : TE} {tt : TT} {vs : List Nat} {j : Nat} {σ : L2.St} {H : Hp} {Q : VK} (f : V → Bool) (hx : ∀ R : VK, R (.ref a) H → tl σ H R) (hs : SqT K H a xs) (hz : xs.length ≤ 100000)
    (hw : ∀ x, wipe ((wipe σ vs).set j (some x)) vs = wipe σ vs)
    (ht : ∀ (i : Nat) (x : V) (H3 : Hp), xs[i]? = some x → Same H H3 → ∀ Q' : Bool → Hp → Prop, (∀ H4, Same H3 H4 → Q' (f x) H4) → tt ((wipe σ vs).set j (some x)) H3 Q')
    (he : ∀ (i : Nat) (x : V) (H3 : Hp), xs[i]? = some x → Same H H3 → ∀ Q' : VK, Q' x H3 → te ((wipe σ vs).set j (some x)) H3 Q')
    (hq : ∀ D H', H D = none → Same H H' → H' D = some (.lst (xs.filter f)) → Q (.ref D) H') : tLc (iTup K tl) (gName j) tt te vs σ H Q := by
  refine hx _ ⟨a, rfl, ⟨xs, hs⟩, fun D hD => ?_⟩
  refine lc_tup (xs := xs) (Kept H xs f D) ⟨hD, same_new hD, upd_same⟩ (fun i H' _ m => same_sqT m.same hs) (fun i x H' hi m => ⟨hw x, ?_⟩) (fun H' m => hq D H' m.new m.same (by have := m.held; rwa [List.take_length] at this))
  have hl := (List.getElem?_eq_some_iff.mp hi).1
  have e1 : xs.take (i + 1) = xs.take i ++ [x] := by
    obtain ⟨_, rfl⟩ := List.getElem?_eq_some_iff.mp hi
    exact List.take_succ_eq_append_getElem hl
  refine ht i x H' hi m.same _ fun H4 s4 => ?_
  cases hf : f x with
  | true =>
    rw [if_pos rfl]
    refine he i x H4 hi (m.same.trans s4) _ ⟨_, s4 _ _ m.held, ?_, m.new, same_own (m.same.trans s4) m.new, ?_⟩
    · have := List.length_filter_le f (xs.take i)
      rw [List.length_take] at this
      exact Nat.lt_of_lt_of_le (by omega : _ < 100001) (by decide)
    · rw [upd_same, e1, List.filter_append, List.filter_cons, if_pos hf]
      rfl
  | false =>
    rw [if_neg
          Bool.false_ne_true]
    refine ⟨m.new, m.same.trans s4, ?_⟩
    rw [e1, List.filter_append, List.filter_cons, if_neg (by rw [hf]; decide)]
    show _ = some (HO.lst (_ ++ []))
    rw [List.append_nil]
    exact s4 _ _ m.held
end Ur
namespace Ur
open PySem L2
section
variable {te : TE} {vs : List Nat} {j : Nat} {σ : L2.St} {Q : VK}
/-- [elt for x in range(n)], n drawn -/
theorem lcRn {ta : TA} {H0 : Hp} (Pn : Int → Prop) (Pe : Int → Nat → V → Prop) (hx : ∀ R : List V → Hp → Prop, (∀ n H1, Pn n → Same H0 H1 → R [.int n] H1) → ta σ H0 R) (hb : ∀ n, Pn n → 0 ≤ n ∧ n ≤ 100000)
    (hw : ∀ x, wipe ((wipe σ vs).set j (some x)) vs = wipe σ vs)
    (he : ∀ (n : Int) (i : Nat) (H3 : Hp), Pn n → i < n → Same H0 H3 → ∀ Q' : VK, (∀ y H4, Pe n i y → Same H3 H4 → Q' y H4) → te ((wipe σ vs).set j (some (.int (0 + (i : Int))))) H3 Q')
    (hq : ∀ n D ys H', Pn n → H0 D = none → Same H0 H' → H' D = some (.lst ys) → (ys.length : Int) = n → (∀ i y, ys[i]? = some y → Pe n i y) → Q (.ref D) H') : tLc (iRng1 ta) (gName j) tYes te vs σ H0 Q := by
  refine hx _ fun n H1 pn s1 => ⟨n, rfl, by have := hb n pn; omega, by have := hb n pn; omega, fun D hD => ?_⟩
  have hn := hb n pn
  refine lc_range (lo := 0) (n := n.toNat) (Made H1 (Pe n) D) (.start hD) (fun i H' hi m => ⟨hw _, ?_⟩) (fun H' ⟨hn, sm, ys, h1, h2, h3⟩ => hq n D ys H' pn (s1.free hn) (s1.trans sm) h1 (by omega) h3)
  unfold tYes
  dsimp only
  rw [if_pos rfl]
  exact m.turn (by omega) (he n i H' pn (by omega) (s1.trans m.same))
end
end Ur
namespace Ur
open PySem L2
/-- the def of this name keeps this promise where no repr runs around it -/
def HasG (P : Program) (w : World) (K : PySem.W.Frag) (mg : Str → Option Value) (base : Heap) (x : Str) (ps : List Str) (k : Nat) (sp : Sp) : Prop :=
  ∃ f fd, FnG P w K mg base CX0 k f fd ps sp ∧ mg x = some (.ref f) ∧ PySem.W.keepIn K (.ref f) = true ∧ Binds K fd ps []
def HasK (P : Program) (w : World) (K : PySem.W.Frag) (mg : Str → Option Value) (base : Heap) (x : Str) (ps : List Str) (k : Nat) (sp : Sp) : Prop :=
  ∃ f fd, FnOk P w K mg base CX0 k f fd ps sp ∧ mg x = some (.ref f) ∧ PySem.W.keepIn K (.ref f) = true ∧ KwAll K fd ps
theorem pe_hasG {X : Cx} {x : Str} {p pos : Pos} {e : Expr} {es : List Expr} {t : TA} {ps : List Str} {k : Nat} {sp : Sp} (h : HasG X.prog X.w X.K X.mg X.base x ps k sp) (hgu : X.A.guards = some []) (hr : Room k X.A) (hg : Gl X x)
    (ha : PA X (e :: es) t) (hdb : (x == ("__debug__" : Str)) = false := by decide) (he : starEach (e :: es) X.env = (false, eval e X.env) :: starEach es X.env := by rfl)
    (hpl : (backTo pos (starEach es X.env)).any (·.1) = false := by rfl) : PE X (.Call (.Name x p) (e :: es) [] pos) (tCall sp [] E0 t) := by
  obtain ⟨f, fd, G, m, kp, b⟩ := h
  exact callG G hgu hr hg m kp b pass0 ha hdb he hpl
def FndK (K : PySem.W.Frag) (mg : Str → Option Value) (x : Str) (st : Stmt) (ps : List Str) : Prop :=
  ∃ f fd, Fun K x x st f fd ∧ mg x = some (.ref f) ∧ Binds K fd ps [] ∧ KwAll K fd ps
section
variable {P : Program} {w : World} {K : PySem.W.Frag} {mg : Str → Option Value} {base : Heap} {x : Str} {st : Stmt} {ps : List Str} {k : Nat} {sp : Sp}
theorem Fnd.has (D : Fnd K mg x st ps) (h : ∀ {f fd}, Fun K x x st f fd → FnOk P w K mg base CX0 k f fd ps sp) : Has P w K mg base x ps k sp := by
  obtain ⟨f, fd, F, m, b⟩ := D
  exact ⟨f, fd, h F, m, F.kp, b⟩
theorem Fnd.hasG (D : Fnd K mg x st ps) (h : ∀ {f fd}, Fun K x x st f fd → FnG P w K mg base CX0 k f fd ps sp) : HasG P w K mg base x ps k sp := by
  obtain ⟨f, fd, F, m, b⟩ := D
  exact ⟨f, fd, h F, m, F.kp, b⟩
theorem FndK.fnd (D : FndK K mg x st ps) : Fnd K mg x st ps := by
  obtain ⟨f, fd, F, m, b, _⟩ := D
  exact ⟨f, fd, F, m, b⟩
theorem FndK.hasK (D : FndK K mg x st ps) (h : ∀ {f fd}, Fun K x x st f fd → FnOk P w K mg base CX0 k f fd ps sp) : HasK P w K mg base x ps k sp := by
  obtain ⟨f, fd, F, m, _, b⟩ := D
  exact ⟨f, fd, h F, m, F.kp, b⟩
end
section
variable {K : PySem.W.Frag} {h : Heap} {mg : Str → Option Value} {x : Str} {st : Stmt} {ps : List Str} {f : Addr} {oc kV dc pm cd ct : Value} {od an : Option Addr} {sl : Array (Option Value)}
theorem fnd_mk (X : K.In h) (G : h.Ns mainGlobals mg) (a : PySem.W.nsIn K mainGlobals x = some (some (.ref f))) (l : K.lookup f = some ⟨oc, od, .func (PySem.W.fnOf x x (defArgs st) (defBody st) (defScope st) .none kV dc pm an cd ct), sl⟩)
    (c : PySem.W.codeIn K cd x = true) (k : PySem.W.keepIn K (.ref f) = true)
    (hb : ∀ (kV doc pm : Value) (an : Option Addr) (cdv ct : Value) (us : List Value), us.length = ps.length → bindArgs (PySem.W.fnOf x x (defArgs st) (defBody st) (defScope st) .none kV doc pm an cdv ct) ⟨us, []⟩ = pure (ps.zip us)) : Fnd K mg x st ps :=
  have F := fun_mk l c k
  ⟨f, _, F, PySem.W.mg_of X G a, F.binds hb⟩
theorem fndK_mk (X : K.In h) (G : h.Ns mainGlobals mg) (a : PySem.W.nsIn K mainGlobals x = some (some (.ref f))) (l : K.lookup f = some ⟨oc, od, .func (PySem.W.fnOf x x (defArgs st) (defBody st) (defScope st) .none kV dc pm an cd ct), sl⟩)
    (c : PySem.W.codeIn K cd x = true) (k : PySem.W.keepIn K (.ref f) = true)
    (hb : ∀ (kV doc pm : Value) (an : Option Addr) (cdv ct : Value) (us : List Value), us.length = ps.length → bindArgs (PySem.W.fnOf x x (defArgs st) (defBody st) (defScope st) .none kV doc pm an cdv ct) ⟨us, []⟩ = pure (ps.zip us))
    (hk : ∀ (kV doc pm : Value) (an : Option Addr) (cdv ct : Value) (us ws : List Value), (us ++ ws).length = ps.length → bindArgs (PySem.W.fnOf x x (defArgs st) (defBody st) (defScope st) .none kV doc pm an cdv ct) ⟨us, ps.zip ws⟩ = pure (ps.zip (us ++ ws))) : FndK K mg x st ps :=
  have F := fun_mk l c k
  ⟨f, _, F, PySem.W.mg_of X G a, F.binds hb, ⟨fun _ us ws _ hl => .of_eq (hk _ _ _ _ _ _ us ws hl), fun a b => a.append b⟩⟩
end
end Ur
namespace Ur
theorem one_split {α : Type} {us ws : List α} (h : (us ++ ws).length = 1) : (∃ v, us = [] ∧ ws = [v]) ∨ ∃ v, us = [v] ∧ ws = [] := by
  match us, ws, h with
  | [], [v], _ => exact Or.inl ⟨v, rfl, rfl⟩
  | [v], [], _ => exact Or.inr ⟨v, rfl, rfl⟩
  | [], _ :: _ :: _, h => exact absurd h (by simp)
  | [_], _ :: _, h => exact absurd h (by simp)
  | _ :: _ :: _, _, h => exact absurd h (by simp)
end Ur

namespace Ur
open PySem L2
/-! ### calls by name, the names the other way round -/
def HasR (P : Program) (w : World) (K : PySem.W.Frag) (mg : Str → Option Value) (base : Heap) (x : Str) (ps : List Str) (k : Nat) (sp : Sp) : Prop :=
  ∃ f fd, FnOk P w K mg base CX0 k f fd ps sp ∧ mg x = some (.ref f) ∧ PySem.W.keepIn K (.ref f) = true ∧ ∀ (s : Shared) (ws : List Value), K.In s.heap → ws.length = ps.length → BindsTo s fd ⟨[], ps.reverse.zip ws⟩ (ps.zip ws.reverse)
def tHasR (sp : Sp) (tk : TA) : TE := fun σ H Q => tk σ H fun zs H1 => sp zs.reverse H1 Q E0
theorem vals_rev {vs : List V} {us : List Value} (h : Vals vs us) : Vals vs.reverse us.reverse := by
  induction h with
  | nil => exact .nil
  | cons a b ih =>
    rw [List.reverse_cons,
          List.reverse_cons]
    exact ih.append (.cons a .nil)
theorem pe_hasR0 {X : Cx} {x : Str} {p pos : Pos} {tk : TA} {ps : List Str} {k : Nat} {sp : Sp} {kws : List Keyword} (h : HasR X.prog X.w X.K X.mg X.base x ps k sp) (hr : Room k X.A) (hg : Gl X x) (hkw : PK X kws tk)
    (hall : (backToKw pos (keywordEach kws X.env)).all (·.1.isSome) = true := by rfl) (hks : (backToKw pos (keywordEach kws X.env)).filterMap (·.1) = ps.reverse := by rfl) (hdb : (x == ("__debug__" : Str)) = false := by decide)
    (hpl : ((backTo pos (starEach [] X.env)).any (·.1) || (backToKw pos (keywordEach kws X.env)).any (·.1.isNone)) = false := by rfl) : PE X (.Call (.Name x p) [] kws pos) (tHasR sp tk) := by
  obtain ⟨f, fd, G, m, kp, b⟩ := h
  constructor
  intro pins s σ H Q I hq
  apply wpAny_Call_Name_kw
  apply ld_glob I hg m _ hdb
  apply PySem.W.callWith_KW0 (h₀ := X.base) I.ok.mod.kin kp hall _ hpl
  refine thn (hkw.run pos pins s σ H _ I hq) ?_
  rintro ws s2 ⟨zs, H2, I2, rz, q2⟩
  refine ⟨I2.kIn, ?_⟩
  rw [hks]
  have rr := vals_rev rz
  have hl : ws.length = ps.length := by
    rw [← List.length_reverse (as := ws), ← rr.length]
    exact G.len _ _ _ _ q2
  apply wpAny_call
  refine codeAny_mono (G.run X.A X.stack s2 H2 ⟨[], ps.reverse.zip ws⟩ ws.reverse zs.reverse Q E0 hr I2.env0 (b s2 ws I2.kIn hl) rr q2) ?_
  intro res s' hq
  match res, hq with
  | .error e, hq => exact pass0 pins σ H2 s2 e s' I2 hq
  | .ok (.ret u), hq => exact I2.after hq
/-- some arguments by position, the others by name -/
def HasN (P : Program) (w : World) (K : PySem.W.Frag) (mg : Str → Option Value) (base : Heap) (x : Str) (ps : List Str) (n : Nat) (ks : List Str) (k : Nat) (sp : Sp) : Prop :=
  ∃ f fd, FnOk P w K mg base CX0 k f fd ps sp ∧ mg x = some (.ref f) ∧ PySem.W.keepIn K (.ref f) = true ∧ KBn K fd ps n ks (fun us ws => us ++ ws.reverse) (fun vs zs => vs ++ zs.reverse)
theorem pe_hasN {X : Cx} {x : Str} {p pos : Pos} {e : Expr} {es : List Expr} {t tk : TA} {ps ks : List Str} {n k : Nat} {sp : Sp} {kws : List Keyword} (h : HasN X.prog X.w X.K X.mg X.base x ps n ks k sp) (hr : Room k X.A) (hg : Gl X x)
    (ha : PA X (e :: es) t) (hkw : PK X kws tk) (hall : (backToKw pos (keywordEach kws X.env)).all (·.1.isSome)
          = true := by rfl) (hks : (backToKw pos (keywordEach kws X.env)).filterMap (·.1) = ks := by rfl)
    (hdb : (x == ("__debug__" : Str)) = false := by decide) (he : starEach
          (e :: es) X.env = (false, eval e X.env) :: starEach es X.env := by rfl)
    (hpl : ((backTo pos (starEach (e :: es) X.env)).any (·.1) || (backToKw
          pos (keywordEach kws X.env)).any (·.1.isNone)) = false := by rfl) :
    PE X (.Call (.Name x p) (e :: es) kws pos) (tCallN n ks.length sp (fun vs zs => vs ++ zs.reverse) E0 t tk) := by
  obtain ⟨f, fd, G, m, kp, b⟩ := h
  exact pe_callN G hr hg m kp b pass0 ha hkw hall hks hdb he hpl
/-! ### tuples of ints -/
def Tp (K : PySem.W.Frag) (H : Hp) (v : V) (ns : List Int) : Prop := ∃ a, v = .ref a ∧ SqT K H a (ns.map V.int)
theorem Tp.same {K : PySem.W.Frag} {H H' : Hp} {v : V} {ns : List Int} (s : Same H H') (h : Tp K H v ns) : Tp K H' v ns := by
  obtain ⟨a, e, h⟩ := h
  exact ⟨a, e, same_sqT s h⟩
theorem Tp.dp {K : PySem.W.Frag} {H : Hp} {v : V} {ns : List Int} (h : Tp K H v ns) : Dp K H v (.tuple (ns.map PyData.int)) := by
  obtain ⟨a, rfl, h⟩ := h
  exact dp_ints h
def sp1 (K : PySem.W.Frag) (pre : List Int → Prop) (f : List Int → List Int) : Sp := fun vs H Q _ => ∃ (v : V) (a : List Int), vs = [v] ∧ Tp K H v a ∧ pre a ∧ ∀ p H', Same H H' → Tp K H' p (f a) → Q p H'
def sp2 (K : PySem.W.Frag) (pre : List Int → List Int → Prop) (f : List Int → List Int → List Int) : Sp := fun vs H Q _ => ∃ (v w : V) (a b : List Int), vs = [v, w] ∧ Tp K H v a ∧ Tp K H w b ∧ pre a b ∧ ∀ p H', Same H H' → Tp K H' p (f a b) → Q p H'
def sp3 (K : PySem.W.Frag) (pre : List Int → List Int → List Int → Prop) (f : List Int → List Int → List Int → List Int) : Sp := fun vs H Q _ =>
  ∃ (v w z : V) (a b c : List Int), vs = [v, w, z] ∧ Tp K H v a ∧ Tp K H w b ∧ Tp K H z c ∧ pre a b c ∧ ∀ p H', Same H H' → Tp K H' p (f a b c) → Q p H'
end Ur
namespace Ur
open PySem L2
/-! ### texts of lists of such tuples, of ints -/
def tupD (ns : List Int) : PyData := .tuple (ns.map PyData.int)
structure IntsOk (ds : List PyData) (n : Nat) : Prop where
  ls : PyData.leavesShortAll 13 ds = true
  wt : PyData.weightAll ds ≤ n
  sh : PyData.showableAll ds = true
  hd : PyData.hasDictAll ds = false
  dp : PyData.depthAll ds ≤ 1
theorem log40 {n : Nat} (h : n < 10 ^ 12) : n.log2 + 1 ≤ 40 := by
  by_cases z : n = 0
  · subst z; decide
  · have : n.log2 < 40 := (Nat.log2_lt z).mpr (Nat.lt_of_lt_of_le h (by decide))
    omega
theorem ints_ok : ∀ {ns : List Int}, (∀ n ∈ ns, n.natAbs < 10 ^ 12) → IntsOk (ns.map PyData.int) (41 * ns.length)
  | [], _ => ⟨rfl, Nat.le_refl _, rfl, rfl, Nat.zero_le _⟩
  | n :: r, h => by
    have hn := h n List.mem_cons_self
    obtain ⟨a, b, c, d, e⟩ := ints_ok (ns := r) fun m hm => h m (List.mem_cons_of_mem _ hm)
    have l := log40 hn
    refine ⟨?_, ?_, ?_, ?_, ?_⟩
    · show (decide ((PyData.shown (.int n)).length ≤ 13) && PyData.leavesShortAll 13 (r.map PyData.int)) = true
      rw [a, decide_eq_true (PyData.shown_int_le hn)]
      rfl
    · show (if n == 0 then 0 else n.natAbs.log2 + 1) + 1 + PyData.weightAll (r.map PyData.int) ≤ 41 * (r.length + 1)
      split <;> omega
    · show (decide (n.natAbs.log2 < 1920) && PyData.showableAll (r.map PyData.int)) = true
      rw [c, decide_eq_true (by omega)]
      rfl
    · show (false || PyData.hasDictAll (r.map PyData.int)) = false
      rw [d]
      rfl
    · show max 0 (PyData.depthAll (r.map PyData.int)) ≤ 1
      omega
theorem tups_ok : ∀ {nss : List (List Int)}, (∀ ns ∈ nss, ns.length ≤ 10 ∧ ∀ n ∈ ns, n.natAbs < 10 ^ 12) → IntsOk (nss.map tupD) (411 * nss.length)
  | [], _ => ⟨rfl, Nat.le_refl _, rfl, rfl, Nat.zero_le _⟩
  | ns :: r, h => by
    obtain ⟨hl, hn⟩ := h ns List.mem_cons_self
    obtain ⟨a, b, c, d, e⟩ := tups_ok (nss := r) fun m hm => h m (List.mem_cons_of_mem _ hm)
    obtain ⟨a', b', c', d', e'⟩ := ints_ok hn
    refine ⟨?_, ?_, ?_, ?_, ?_⟩
    · show (PyData.leavesShortAll 13 (ns.map PyData.int) && PyData.leavesShortAll 13 (r.map tupD)) = true
      rw [a, a']
      rfl
    · show PyData.weightAll (ns.map PyData.int) + 1 + PyData.weightAll (r.map tupD) ≤ 411 * (r.length + 1)
      omega
    · show (PyData.showableAll (ns.map PyData.int) && PyData.showableAll (r.map tupD)) = true
      rw [c, c']
      rfl
    · show (PyData.hasDictAll (ns.map PyData.int) || PyData.hasDictAll (r.map tupD)) = false
      rw [d, d']
      rfl
    · show max (PyData.depthAll (ns.map PyData.int) + 1) (PyData.depthAll (r.map tupD)) ≤ 1
      have := depth_ints ns
      omega
/-- what repr asks of a list -/
theorem rep_of {K : PySem.W.Frag} {H : Hp} {a : Addr} {ds : List PyData} {n : Nat} {Q : VK} (hd : Dp K H (.ref a) (.list ds)) (o : IntsOk ds n) (hn : n ≤ 1000000) (q : Q (.str (PyData.shown (.list ds))) H) : rRepr K [.ref a] H Q :=
  ⟨a, .list ds, rfl, hd, o.sh, o.hd, PyData.shown_fits (B := 13) (by decide) (by decide) o.ls (Nat.le_trans o.wt (Nat.le_trans hn (by decide))), by show PyData.depthAll ds + 1 ≤ 60; have := o.dp; omega, q⟩
theorem dpAll_tps {K : PySem.W.Frag} {H : Hp} : ∀ {vs : List V} {nss : List (List Int)}, Paired (Tp K H) vs nss → DpAll K H vs (nss.map tupD)
  | _, _, .nil => .nil
  | _, _, .cons h t => .cons h.dp (dpAll_tps t)
theorem dp_list {K : PySem.W.Frag} {H : Hp} {a : Addr} {vs : List V} {ds : List PyData} (h : H a = some (.lst vs)) (hd : DpAll K H vs ds) : Dp K H (.ref a) (.list ds) := .lst (SqL.of h) hd
theorem fnd_r {K : PySem.W.Frag} {mg : Str → Option Value} {x : Str} {ps : List Str} {P : Program} {w : World} {base : Heap} {k : Nat} {sp : Sp} {f : Addr} {fd : FuncData}
    (G : FnOk P w K mg base CX0 k f fd ps sp) (m : mg x = some (.ref f)) (kp : PySem.W.keepIn K (.ref f) = true)
    (b : ∀ (s : Shared) (ws : List Value), K.In s.heap → ws.length = ps.length → BindsTo s fd ⟨[], ps.reverse.zip ws⟩ (ps.zip ws.reverse)) : HasR P w K mg base x ps k sp := ⟨f, fd, G, m, kp, b⟩
end Ur

namespace Ur
open PySem L2 PyProof.Rows
/-! ### enumerate of a tuple -/
set_option
      maxHeartbeats 1000000 in
theorem enum_one {v : Value} {o : Obj} {G : Heap → Prop} (B : Begins v o G) :
    Meets (Builtin.«enumerate.__new__» ⟨[.type "enumerate", v], []⟩) (fun _ R s => G s.heap ∧ R (.ok (.ret (.ref (s.heap.push o).objs.size)))
      { s with heap := (s.heap.push o).push { cls := .type "enumerate", data := .fields #[.none, .bool false, .ref s.heap.objs.size, rawInt 0, .none, .none] } }) :=
  .of_wp fun prog
        w A R s h => by
    obtain ⟨hp, g,
          d, tk, os⟩ := s
    obtain ⟨g1, h⟩ := h
    have hs := sub_enumerate
    have it1 : ∀ {A2 : Around} {E : Value → Shared → Prop} {Q : Value → Shared → Prop}, Q (.ref hp.objs.size) ⟨hp.push o, g, d, tk, os⟩ → wpAny (model prog w) A2 (pyIter v) Q E ⟨hp, g, d, tk, os⟩ :=
      fun q => B.iter prog w _ _ ⟨hp, g, d, tk, os⟩ _ g1 q
    wp_walk
    refine wpAny_stack_any
          fun st => wpAny_pure ?_
    split
    · rename_i c _ _ _ _ _
      cases (c == Value.type "enumerate") <;> (wp_walk using it1; exact ⟨_, rfl, h⟩)
    · wp_walk using it1
      exact ⟨_, rfl, h⟩
section
variable {prog : Program} {w : World} {A :
      Around} {E : Value → Shared → Prop} {s : Shared}
theorem call_enum_tup {t : Addr} {items : Array Value} {Q : Value → Shared → Prop} (ht : s.heap.IsTuple t items)
    (k : ∀ h', IsEnum h' (s.heap.objs.size + 1) s.heap.objs.size 0 .none → h'.IsTupleIter s.heap.objs.size t 0 → h'.objs.size = s.heap.objs.size + 2 →
      (∀ b o, s.heap.get? b = some o → h'.get? b = some o) → Q (.ref (s.heap.objs.size + 1)) { s with heap := h' }) : wpAny (model prog w) A (call (.type "enumerate") [.ref t]) Q E s := by
  have B := begins_tuple t items
  refine callType_new F.called_enumerate (by decide) (F.typeCall_enumerate_1 _) (F.newCall_enumerate_1 _) (fun obj => F.args_object_init_2 obj _) F.entry_enumerate_new (enum_one B) ⟨ht, ?_⟩
  generalize ho : ({ cls := .type "tuple_iterator", data := .fields #[.ref t, .int 0 0] } : Obj) = o at B
  have hz : (s.heap.push o).objs.size =
        s.heap.objs.size + 1 := Heap.size_push ..
  show _ ∧ _
  rw [hz]
  have he := Heap.get?_push_size (s.heap.push o) (o := { cls := .type "enumerate", data := .fields #[.none, .bool false, .ref s.heap.objs.size, rawInt 0, .none, .none] }) rfl
  rw [hz] at he
  have hi := Heap.get?_push_of_some { cls := .type "enumerate", data := .fields #[.none, .bool false, .ref s.heap.objs.size, rawInt 0, .none, .none] } (Heap.get?_push_size s.heap B.free)
  exact ⟨⟨_, he, rfl⟩, k _ he ⟨o, hi, by rw [← ho], by rw [← ho]; rfl⟩ (by rw [Heap.size_push, hz]) fun b o x => Heap.get?_push_of_some _ (Heap.get?_push_of_some _ x)⟩
end
def IteT (K : PySem.W.Frag) (a : Addr) : L2.It :=
  ⟨fun i H => ∃ (xs : List V) (x : V), SqT K H a xs ∧ xs[i]? = some x, fun i H v H' => ∃ T x, v = .ref T ∧ H T = none ∧ H' = upd H T (.tup [.int (i : Nat), x]) ∧ ∀ xs, SqT K H a xs → xs[i]? = some x, fun i H => ∃ xs : List V, SqT K H a xs ∧ xs.length = i⟩
theorem turn_enumT {P : Program} {w : World} {K : PySem.W.Frag} {elts : List Expr} {kk : Nat} {tpos : Pos} (a e it : Addr) :
    Turn P w K (.Tuple elts kk tpos) (IteT K a) [e, it] e (fun i h => (∃ old, IsEnum h e it ((i : Nat) : Int) old) ∧ h.IsTupleIter it a i ∧ e ≠ it) where
  mem := by simp
  obj := fun i h st b hb => by
    obtain ⟨⟨old, he⟩, ⟨o,
          ho, hc, hd⟩, _⟩ := st
    rcases (by simpa using hb : b = e ∨ b = it) with z | z
    · rw [z]
      exact ⟨_, he, fun v q => nomatch q⟩
    · rw [z]
      exact ⟨o, ho, fun v q => by rw [hd] at q; cases q⟩
  keep := fun i h h' st k => by
    obtain ⟨⟨old, he⟩, hi, hne⟩ := st
    exact ⟨⟨old, k e (by simp) _ he⟩, hi.at fun o q => k it (by simp) o q, hne⟩
  item := by
    intro X hP hw hK hc i
          pins s σ H E I hf st hg
    subst hP hw hK
    obtain ⟨⟨old, he⟩,
          hit, hne⟩ := st
    obtain ⟨xs, x, hq, hx⟩ := hg
    obtain ⟨its, rv, p,
          hz⟩ := I.tuple hq
    obtain ⟨u, hu,
          ru⟩ := rv.get hx
    have hel : e < s.heap.objs.size
          := Heap.lt_size he
    have hil : it < s.heap.objs.size := by
      obtain ⟨_, q, _⟩ := hit
      exact Heap.lt_size q
    have hat : a ≠ it := by
      rintro rfl
      obtain ⟨o, e1, c1, _⟩ := p
      obtain ⟨o', e2, c2, _⟩ := hit
      rw [e1] at e2
      cases e2
      rw [c1] at c2
      exact absurd (Value.type.inj c2) (by decide)
    have hae : e ≠ a := by
      rintro rfl
      obtain ⟨o, e1, c1, _⟩ := p
      have e2 : s.heap.get? e = _ := he
      rw [e1] at e2
      cases e2
      exact absurd (Value.type.inj c1) (by decide)
    have hlt : i < its.toArray.size := by
      have := (Array.getElem?_eq_some_iff.mp (by simpa using hu : its.toArray[i]? = some u)).1
      exact this
    refine wpAny_pyNext_enum_itemD (Draws.tuple (prog := X.prog) (w := X.w) (A := X.A.in1) (I.ok.hd hc) it a hat its.toArray) he ⟨hit, p⟩ hlt hne (by simp [hne, hae]) fun x' h' tk hpx ho st' hT hsz hk => ?_
    obtain rfl : x' = u := by
      have e1 : its.toArray[i]? = some u := by simpa using hu
      exact (Option.some.inj (hpx.symm.trans e1))
    refine ⟨_, rfl, wpAny_letOwnedTupleGo_enum (s := { s with heap := h', toks := tk + 1 }) ho fun h'' he' sb => ?_⟩
    have hT2 : h''.get? s.heap.objs.size = some { cls := .type "tuple", data := .seq #[.int i tk, x'] } := (sb.2 _ (Nat.ne_of_gt hel)).trans hT
    have new : ObjOk X.prog X.w (upd H s.heap.objs.size (.tup [.int (i
          : Nat), x])) h'' s.heap.objs.size (.tup [.int (i : Nat), x]) :=
      ⟨by show 2 ≤ sizeLine; decide, [.int i tk, x'], .cons ⟨_, rfl⟩ (.cons ru .nil), ⟨_, hT2, rfl, _, rfl⟩⟩
    have I1 : Inv X pins σ (upd H s.heap.objs.size (.tup [.int (i : Nat), x])) { s with heap := h'', toks := tk + 1 } :=
      I.turnedNew (ch := [e, it]) (fun b ob hb q => (sb.2 b (fun z => hb (by simp [z]))).trans
            (hk b ob (fun z => hb (by simp [z])) (fun z => hb (by simp [z])) q)) hf (Nat.le_refl _) new
    refine ⟨.ref s.heap.objs.size, _, I1, rfl, ⟨_, x, rfl, I.hok.fresh (Nat.le_refl _), rfl, fun ys hy => by rw [I.tuple_inj hy hq]; exact hx⟩, ⟨⟨x', ?_⟩, st'.1.at fun o q => (sb.2 it (Ne.symm hne)).trans q, hne⟩, fun b hb => ?_⟩
    · have e1 : ((i + 1 : Nat) :
          Int) = (i : Int) + 1 := by omega
      rw [e1]
      exact he'
    · have hb' : b <
          s.heap.objs.size := by
        rcases (by simpa using hb : b = e ∨ b = it) with z | z
        · rw [z]; exact hel
        · rw [z]; exact hil
      rw [upd_ne
            (Nat.ne_of_lt hb')]
      exact (hf b hb).1
  done := by
    intro X hP hw hK hc i
          pins s σ H E I hf st hg
    subst hP hw hK
    obtain ⟨⟨old, he⟩,
          hit, hne⟩ := st
    obtain ⟨xs, hq, hx⟩ := hg
    obtain ⟨its, rv, p,
          hz⟩ := I.tuple hq
    obtain ⟨f0, f1, f2, f3,
          f4, f5⟩ := hf it (by simp)
    have hl := rv.length
    have hat : a ≠ it := by
      rintro rfl
      obtain ⟨o, e1, c1, _⟩ := p
      obtain ⟨o', e2, c2, _⟩ := hit
      rw [e1] at e2
      cases e2
      rw [c1] at c2
      exact absurd (Value.type.inj c2) (by decide)
    have hi : i = its.toArray.size := by
      rw [List.size_toArray, ← hl]
      exact hx.symm
    subst hi
    exact wpAny_pyNext_enum_endD (Draws.tuple (prog := X.prog) (w := X.w) (A := X.A.in1) (I.ok.hd hc) it a hat its.toArray) he ⟨hit, p⟩ fun h' eb => ⟨rfl, I.turned (t' := s.toks) (fun b o hb q => eb b o hb q) f0 f1 f3 f4 f5⟩
  self := fun A i
        s Q E st h => by
    obtain ⟨⟨_, he⟩, _⟩ := st
    exact wpAny_pyIter_enum he h
def iEnumT (K : PySem.W.Frag) (ta : TA) : TI := fun σ H R => ta σ H fun vs H1 => ∃ a xs, vs = [.ref a] ∧ SqT K H1 a xs ∧ R (IteT K a) H1
theorem pi_enumT {X : Cx} {e : Expr} {ta : TA} {p pos tpos : Pos} {elts : List Expr} {kk : Nat} (hg : Gl X "enumerate") (hm : X.mg "enumerate" = none) (ha : PA X [e] ta) (hs : starEach [e] X.env = [(false, eval e X.env)] := by rfl) :
    PI X (.Tuple elts kk tpos) (.Call (.Name "enumerate" p) [e] [] pos) (iEnumT X.K ta) := by
  refine ⟨fun pins
        s σ H R I h => ?_⟩
  refine Call_ (ld_blt I hg hm boot_enumerate (PyProof.Rows.callWith_type1 (thn
        (ha.run pos pins s σ H _ I h) fun us s1 ⟨vs, H1, I1, r1, q1⟩ => ?_) hs rfl))
  obtain ⟨a, xs,
        ex, hq, q⟩ := q1
  subst ex
  cases r1 with
  | cons r rr =>
    cases rr
    cases r
    obtain ⟨its, rv, p', hz⟩ := I1.tuple hq
    refine call_enum_tup p' fun h' he hit hsz hk => wpAny_pyIter_enum he ?_
    have I2 : Inv X pins σ H1 { s1 with heap
          := h' } := I1.kept (t' := s1.toks) hk
    refine ⟨s1.heap.objs.size + 1, [s1.heap.objs.size + 1, s1.heap.objs.size], _, _, H1, rfl, I2, turn_enumT a (s1.heap.objs.size + 1) s1.heap.objs.size, ⟨⟨.none, he⟩, hit, Nat.succ_ne_self _⟩, fun b hb => ?_, q⟩
    have hle :
          s1.heap.objs.size ≤ b := by
      rcases (by simpa using hb : b = s1.heap.objs.size + 1 ∨ b = s1.heap.objs.size) with z | z
      · rw [z]; exact
            Nat.le_add_right _ _
      · rw [z]; exact Nat.le_refl _
    exact I1.fpOk hle
          (I1.hok.fresh hle)
end Ur

namespace Ur
open PySem L2 PyProof.Rows
/-! ### the other laws' pot: own number, stir, count -/
structure Bp (a b c : Int) : Prop where
  a0 : 0 ≤ a
  b0 : 0 ≤ b
  b1 : b < 4294967296
  c0 : 0 ≤ c
def PotO (u : Addr) : HO := .ext fun h => ∃ (a b c : Int) (its : List Value) (n : Nat), Bp a b c ∧ Vals (nums a b c) its ∧ h.get? u = some { cls := .type "list", data := .seq its.toArray n }
section
variable {X : Cx} {pins : List (Addr × Obj)} {σ : L2.St} {H : Hp} {s : Shared} {u : Addr}
theorem potOpen (I : Inv X pins σ H s) (h : H u = some (PotO u)) : ∃ a b c, Bp a b c ∧ Inv X pins σ (upd H u (.lst (nums a b c))) s := by
  obtain ⟨⟨a, b, c, its, n, B, r, e⟩, _⟩ := I.hok u _ h
  refine ⟨a, b, c, B, I.write (x := u) (e := u) (t' := s.toks) (h' := s.heap) (by rw [h]; exact trivial) (.inl rfl) (fun b v _ q => q) ⟨_, e⟩ ?_⟩
  exact ⟨by show 3 ≤ sizeLine; decide, its, n, r, e⟩
theorem potShut {a b c : Int} (I : Inv X pins σ H s) (h : H u = some (.lst (nums a b c))) (B : Bp a b c) : Inv X pins σ (upd H u (PotO u)) s := by
  obtain ⟨_, its, n, r, e⟩ := I.hok u _ h
  refine I.write (x := u) (e := u) (t' := s.toks) (h' := s.heap) (by rw [h]; exact trivial) (.inl rfl) (fun b v _ q => q) ⟨_, e⟩ ?_
  exact ⟨⟨a, b, c, its, n, B, r, e⟩, ⟨_, e⟩, fun h1 h2 ⟨a, b, c, its, n, B, r, e⟩ k => ⟨a, b, c, its, n, B, r, k _ e⟩⟩
end
def ShutP (u : Addr) (Q : Hp → Prop) (H : Hp) : Prop := ∃ a b c, Bp a b c ∧ H u = some (.lst (nums a b c)) ∧ Q (upd H u (PotO u))
def tPot (t : TS) : TS := fun D σ H => ∃ u, H u = some (PotO u) ∧ ∀ a b c, Bp a b c → t ⟨fun σ' H' => ShutP u (D.nx σ') H', fun v H' => ShutP u (D.rt v) H', fun σ' H' => ShutP u (D.bk σ') H', fun σ' H' => ShutP u (D.ct σ') H'⟩ σ (upd H u (.lst (nums a b c)))
def tShutP (t : TE) : TE := fun σ H Q => t σ H fun v H1 => ∃ u, v = .ref u ∧ ShutP u (Q v) H1
section
variable {X : Cx}
theorem pss_pot {sts : List Stmt} {t : TS} (h : PSs X sts t) : PSs X sts (tPot t) := by
  refine ⟨fun pins s
        σ H D I hw => ?_⟩
  obtain ⟨u, hu, hw⟩ := hw
  obtain ⟨a, b, c, B, I1⟩ := potOpen I hu
  refine thn (h.run pins s σ _ _ I1 (hw a b c B)) fun f s1 q => ?_
  cases f with
  | next => obtain ⟨σ', H', I2, a, b, c, B, e, q⟩ := q; exact ⟨σ', _, potShut I2 e B, q⟩
  | brk => obtain ⟨σ', H', I2, a, b, c, B, e, q⟩ := q; exact ⟨σ', _, potShut I2 e B, q⟩
  | cont => obtain ⟨σ', H', I2, a, b, c, B, e, q⟩ := q; exact ⟨σ', _, potShut I2 e B, q⟩
  | ret v => obtain ⟨x, σ', H', I2, r, a, b, c, B, e, q⟩ := q; exact ⟨x, σ', _, potShut I2 e B, r, q⟩
theorem pe_shutP {e : Expr} {t : TE} (h : PE X e t) : PE X e (tShutP t) := by
  refine ⟨fun pins s
        σ H Q I hw => ?_⟩
  refine thn (h.run pins s σ _ _ I hw) fun v s1 ⟨x, H1, I2, r, u, e1, a, b, c, B, e2, q⟩ => ?_
  exact ⟨x, _, potShut I2 e2 B, r, q⟩
end
/-! ### enumerate, walked -/
theorem walk_enumT {K : PySem.W.Frag} {a : Addr} {xs : List V} : Walk (IteT K a) xs.length (fun H => SqT K H a xs) (fun i H v H' => ∃ T x, v = .ref T ∧ H T = none ∧ H' = upd H T (.tup [.int (i : Nat), x]) ∧ xs[i]? = some x) where
  goes := fun i H hi h => ⟨xs, xs[i], h, by simp [hi]⟩
  stops := fun H h => ⟨xs, h, rfl⟩
  yields := fun i H v H' _ h ⟨T, x, e, n, u, q⟩ => ⟨T, x, e, n, u, q xs h⟩
end Ur

namespace Ur
open PySem L2 PyProof.Rows
theorem Made.on {H H3 H4 : Hp} {Pe : Nat → V → Prop} {D : Addr} {i : Nat} (m : Made H Pe D i H3) (s : Same H3 H4) : Made H Pe D i H4 := by
  obtain ⟨hn, sm, ys, h1, h2, h3⟩ := m
  exact ⟨hn, sm.trans s, ys, s _ _ h1, h2, h3⟩
/-- the target of enumerate's pairs -/
abbrev gPair (K : PySem.W.Frag) (i j : Nat) : TG := gTup K 2 (gCons (gName i) (gCons (gName j) gNil))
theorem pair_in {K : PySem.W.Frag} {i j : Nat} {T : Addr} {x y : V} {σ : L2.St} {H : Hp} {Q : L2.St → Hp → Prop} (h : H T = some (.tup [x, y])) (q : Q ((σ.set i (some x)).set j (some y)) H) : gPair K i j (.ref T) σ H Q :=
  ⟨T, [x, y], rfl, SqT.of h, rfl, x, [y], rfl, y, [], rfl, rfl, q⟩
section
variable {K : PySem.W.Frag} {a : Addr} {xs : List V} {te : TE} {ta : TA} {vs : List Nat} {i1 j1 : Nat} {σ : L2.St} {H : Hp} {Q : VK}
theorem lc_pairs {J : L2.It} {G : Hp → Prop} (Pe : Nat → V → Prop) (W : Walk J xs.length G (fun i H v H' => ∃ T x, v = .ref T ∧ H T = none ∧ H' = upd H T (.tup [.int (i : Nat), x]) ∧ xs[i]? = some x)) (hG : ∀ H', Same H H' → G H') (hz : xs.length ≤ 100000)
    (hw : ∀ x y, wipe (((wipe σ vs).set i1 (some x)).set j1 (some y)) vs = wipe σ vs)
    (he : ∀ (i : Nat) x H3, xs[i]? = some x → Same H H3 → ∀ Q' : VK, (∀ y H4, Pe i y → Same H3 H4 → Q' y H4) → te (((wipe σ vs).set i1 (some (.int (i : Nat)))).set j1 (some x)) H3 Q')
    (hq : ∀ D ys H', H D = none → Same H H' → H' D = some (.lst ys) → ys.length = xs.length → (∀ i y, ys[i]? = some y → Pe i y) → Q (.ref D) H') (D : Addr) (hD : H D = none) :
    ∃ W : Nat → Nat → Hp → Prop, (∃ m, W 0 m (upd H D (.lst []))) ∧ ∀ i m H, W i m H →
      (J.stop i H ∧ Q (.ref D) H) ∨ (J.go i H ∧ ∃ Nx : Hp → Prop, (∀ H', Nx H' → ∃ m', m' < m ∧ W (i + 1) m' H') ∧ ∀ x H', J.yld i H x H' → gPair K i1 j1 x (wipe σ vs) H' fun σ2 H2 => wipe σ2 vs = wipe σ vs ∧ tYes σ2 H2 fun b H3 =>
        if b = true then te σ2 H3 fun y H4 => ∃ acc, H4 D = some (.lst acc) ∧
              acc.length < sizeLine ∧ Nx (upd H4 D (.lst (acc ++ [y]))) else Nx H3) := by
  refine lc_it W (Qd := Q (.ref D)) (Made H Pe D) (.start hD) (fun i H' _ m => hG _ m.same) (fun i v H3 H' hi m hY => ?_) (fun H' ⟨hn, sm, ys, h1, h2, h3⟩ => hq D ys H' hn sm h1 h2 h3)
  obtain ⟨T, x, rfl, hT, rfl, hx⟩ := hY
  have s3 := same_new (p := T) (o := HO.tup [.int (i : Nat), x]) hT
  refine pair_in upd_same ⟨hw _ _, ?_⟩
  unfold tYes
  dsimp only
  rw [if_pos rfl]
  exact (m.on s3).turn (by omega) (he i x _ hx (m.same.trans s3))
/-- [e for i, x in enumerate(l)], l a list -/
theorem lcE (Pe : Nat → V → Prop) (hx : ∀ R : List V → Hp → Prop, R [.ref a] H → ta σ H R) (hs : SqL K H a xs) (hz : xs.length ≤ 100000)
    (hw : ∀ x y, wipe (((wipe σ vs).set i1 (some x)).set j1 (some y)) vs = wipe σ vs)
    (he : ∀ (i : Nat) x H3, xs[i]? = some x → Same H H3 → ∀ Q' : VK, (∀ y H4, Pe i y → Same H3 H4 → Q' y H4) → te (((wipe σ vs).set i1 (some (.int (i : Nat)))).set j1 (some x)) H3 Q')
    (hq : ∀ D ys H', H D = none → Same H H' → H' D = some (.lst ys) → ys.length = xs.length → (∀ i y, ys[i]? = some y → Pe i y) → Q (.ref D) H') : tLc (iEnum K ta) (gPair K i1 j1) tYes te vs σ H Q := by
  refine hx _ ⟨a, xs, rfl, hs, fun D hD => ?_⟩
  refine lc_pairs Pe ⟨walk_enum.goes, walk_enum.stops, fun i H v H' hi q y => ?_⟩ (fun H' s => s.seq hs) hz hw he hq D hD
  obtain ⟨T, x, y', h1, h2, h3, h4, h5⟩ := walk_enum.yields i H v H' hi q y
  cases h4
  exact ⟨T, y', h1, h2, h3, h5⟩
/-- [e for i, x in enumerate(t)], t a tuple -/
theorem lcET (Pe : Nat → V → Prop) (hx : ∀ R : List V → Hp → Prop, R [.ref a] H → ta σ H R) (hs : SqT K H a xs) (hz : xs.length ≤ 100000)
    (hw : ∀ x y, wipe (((wipe σ vs).set i1 (some x)).set j1 (some y)) vs = wipe σ vs)
    (he : ∀ (i : Nat) x H3, xs[i]? = some x → Same H H3 → ∀ Q' : VK, (∀ y H4, Pe i y → Same H3 H4 → Q' y H4) → te (((wipe σ vs).set i1 (some (.int (i : Nat)))).set j1 (some x)) H3 Q')
    (hq : ∀ D ys H', H D = none → Same H H' → H' D = some (.lst ys) → ys.length = xs.length → (∀ i y, ys[i]? = some y → Pe i y) → Q (.ref D) H') : tLc (iEnumT K ta) (gPair K i1 j1) tYes te vs σ H Q := by
  refine hx _ ⟨a, xs, rfl, hs, fun D hD => ?_⟩
  exact lc_pairs Pe walk_enumT (fun H' s => same_sqT s hs) hz hw he hq D hD
end
end Ur
namespace Ur
open PySem L2 PyProof.Rows
def rLen (K : PySem.W.Frag) : List V → Hp → VK → Prop := fun xs H Q => ∃ p ys, xs = [V.ref p] ∧ (SqL K H p ys ∨ SqT K H p ys) ∧ Q (.int (ys.length : Nat)) H
theorem len_seq {X : Cx} : CallR X (.builtin "len") (rLen X.K) := call_len_seq
end Ur

namespace Ur
open PySem L2 PyProof.Rows
/-! ### t[::-1], t a tuple -/
theorem fm_all {α β : Type} {f : α → Option β} {g : α → β} : ∀ {l : List α}, (∀ m ∈ l, f m = some (g m)) → l.filterMap f = l.map g
  | [], _ => rfl
  | a :: r, h => by
    rw [List.filterMap_cons, h a List.mem_cons_self, List.map_cons, fm_all fun m hm => h m (List.mem_cons_of_mem _ hm)]
theorem back_pick (xs : Array Value) : ((List.range xs.size).filterMap fun (m : Nat) => xs[(((xs.size : Int) - 1) + (m : Int) * (-1)).toNat]?) = xs.toList.reverse := by
  have e : ((List.range xs.size).filterMap fun (m : Nat) => xs[(((xs.size : Int) - 1) + (m : Int) * (-1)).toNat]?) = (List.range xs.size).filterMap fun m => xs[xs.size - 1 - m]? := by
    congr 1
    funext m
    by_cases h : m ≤ xs.size - 1
    · by_cases h0 : xs.size = 0
      · rw [Array.getElem?_eq_none (by omega), Array.getElem?_eq_none (by omega)]
      · rw [show (((xs.size : Int) - 1) + (m : Int) * (-1)).toNat = xs.size - 1 - m by omega]
    · rw [show (((xs.size : Int) - 1) + (m : Int) * (-1)).toNat = xs.size - 1 - m by omega]
  rw [e]
  have e3 : (List.range xs.size).filterMap (fun m => xs[xs.size - 1 - m]?) = (List.range xs.size).map (fun m => xs.toList.getD (xs.size - 1 - m) .none) := by
    refine fm_all fun m hm => ?_
    have : m < xs.size := List.mem_range.mp hm
    rw [List.getD_eq_getElem?_getD, Array.getElem?_toList, Array.getElem?_eq_getElem (by omega)]
    rfl
  rw [e3]
  apply List.ext_getElem?
  intro i
  rw [List.getElem?_map]
  by_cases h : i < xs.size
  · rw [List.getElem?_range h, List.getElem?_reverse (by simpa using h)]
    rw [Option.map_some, List.getD_eq_getElem?_getD, Array.length_toList, List.getElem?_eq_getElem (by rw [Array.length_toList]; omega)]
    rfl
  · rw [List.getElem?_eq_none (by rw [List.length_range]; omega), List.getElem?_eq_none (by rw [List.length_reverse, Array.length_toList]; omega)]
    rfl
section
variable {prog : Program} {w : World} {A :
      Around} {E : Value → Shared → Prop} {s : Shared}
theorem applied_back {sl : Addr} {t1 : Tok} {n : Nat} {Q : Int × Int × Nat → Shared → Prop} (hs : s.heap.IsSliceOf sl .none .none (.int (-1) t1))
    (h : Q ((n : Int) - 1, -1, n) s) : wpAny (model prog w) A (Builtin.Slice.sliceApplied (.ref sl) (pure (n : Int))) Q E s := by
  obtain ⟨os, hoz, hcz, hdz⟩ := id hs
  unfold Builtin.Slice.sliceApplied
        Builtin.Slice.sliceFields
  refine wpAny_bind (wpAny_bind (wpAny_field hoz hdz (x := .none) rfl (wpAny_bind (wpAny_field hoz hdz (x := .none) rfl (wpAny_bind (wpAny_field hoz hdz (x := .int (-1) t1) rfl (wpAny_pure ?_)))))))
  refine wpAny_bind (slicePart_int ?_)
  show wpAny _ _ (if ((-1 : Int) == 0) = true then _ else _) _ _ s
  rw [if_neg (by decide)]
  refine wpAny_bind (slicePart_none (wpAny_bind (slicePart_none (wpAny_bind (wpAny_pure ?_)))))
  show wpAny _ _ (match Builtin.Slice.sliceAdjust none none (-1) (n : Int) with | (lo, hi) => pure (lo, (-1 : Int), Builtin.Slice.slicePlaces lo hi (-1))) _ _ s
  have e : Builtin.Slice.sliceAdjust none none (-1) (n : Int) = ((n : Int) - 1, -1) := rfl
  rw [e]
  have e2 : Builtin.Slice.slicePlaces ((n : Int) - 1) (-1) (-1) = n := by
    delta Builtin.Slice.slicePlaces
    rw [if_neg (by decide)]
    split
    · rw [show (-(-1 : Int)) = 1 from rfl, Int.ediv_one]
      omega
    · omega
  show wpAny _ _ (pure (((n : Int) - 1), (-1 : Int), Builtin.Slice.slicePlaces ((n : Int) - 1) (-1) (-1))) _ _ s
  rw [e2]
  exact wpAny_pure h
theorem item_back {t sl : Addr} {items : Array Value} {t1 : Tok} {Q : Value → Shared → Prop} (ht : IsTup s.heap t items) (hs : s.heap.IsSliceOf sl .none .none (.int (-1) t1))
    (h : Q (.ref s.heap.objs.size) { s with heap := s.heap.push { cls := .type "tuple", data := .seq items.toList.reverse.toArray } }) (hsz : items.size ≤ sizeLine) : wpAny (model prog w) A (getItem (.ref t) (.ref sl)) Q E s := by
  have hbig : sizeOk (.seq items.toList.reverse.toArray) := by
    show items.toList.reverse.toArray.size ≤ sizeLine
    rw [List.size_toArray, List.length_reverse, Array.length_toList]
    exact hsz
  obtain ⟨os, hoz, hcz, hdz⟩ := id hs
  have hTz : s.TypeIs (.ref sl) "slice" := ⟨os, hoz, hcz⟩
  unfold getItem
  try with_reducible
        refine wpAny_holding ?_
  first | (refine wpAny_bind (wpAny_pure ?_)) | skip
  refine wpAny_bind (wpAny_sequenceKey
        ht.typeIs (by decide) ?_)
  refine wpAny_bind (wpAny_callSpecial?_slot (name := Str.ofString
        "__getitem__") ht.typeIs PyProof.Rows.slot_tuple_getitem
    (wpAny_call_entry PyProof.Rows.slot_tuple_getitem
          ht.typeIs entry_tuple_getitem ?_ (args_tuple_getitem _ _)))
  show wpAny _ _ (Builtin.Tuple.tupleItemsOf
        (.ref t) >>= _) _ _ s
  refine wpAny_bind
        (tupleItemsOf_ ht ?_)
  refine wpAny_bind (wpAny_typeOf hTz ?_)
  rw [if_pos (by decide)]
  refine wpAny_bind (applied_back (t1 := t1) hs ?_)
  have hno : ¬ ((((items.size : Int) - 1) == 0 && (-1 : Int) == 1 && items.size == items.size) = true) := by
    intro q
    rw [Bool.and_eq_true,
          Bool.and_eq_true] at q
    exact absurd q.1.2 (by decide)
  show wpAny _ _ (if (((items.size : Int) - 1) == 0 && (-1 : Int) == 1 && items.size == items.size) = true then _ else _) _ _ s
  rw [if_neg hno, back_pick]
  first
    | exact wpAny_bind (m := Builtin.Tuple.tupleExact _) (wpAny_newObj_type (wpAny_pure ⟨_, rfl, wpAny_pure h⟩) hbig)
    | exact wpAny_bind (m := Builtin.Tuple.tupleExact _) (wpAny_newObj_type (wpAny_bind (wpAny_pure (wpAny_pure ⟨_, rfl, wpAny_pure h⟩))) hbig)
    | exact wpAny_bind (wpAny_bind (m := Builtin.Tuple.tupleExact _) (wpAny_newObj_type (wpAny_pure (wpAny_pure ⟨_, rfl, wpAny_pure h⟩)) hbig))
    | exact wpAny_bind (wpAny_bind (m := Builtin.Tuple.tupleExact _) (wpAny_newObj_type (wpAny_pure ⟨_, rfl, wpAny_pure h⟩) hbig))
end
section
variable {X : Cx}
def tRevT (K : PySem.W.Frag) (te : TE) : TE := fun σ H Q => te σ H fun x H1 => ∃ a xs, x = .ref a ∧ SqT K H1 a xs ∧ ∀ p, H1 p = none → Q (.ref p) (upd H1 p (.tup xs.reverse))
theorem pe_revT {e : Expr} {te : TE} {k : Nat} {p1 p2 p3 pos : Pos} (he : PE X e te) : PE X (.Subscript e (.Slice none none (some (.UnaryOp .USub (.Constant (.int 1) k p1) p2)) p3) pos) (tRevT X.K te) := by
  refine ⟨fun pins
        s σ H Q I h => ?_⟩
  refine Subscript_ (thn (he.run pins s σ H
        _ I h) fun v s1 ⟨x, H1, I1, r1, q1⟩ => ?_)
  obtain ⟨a, xs,
        ex, hx, q⟩ := q1
  subst ex
  cases r1
  have hsz0 : PO X (some (.UnaryOp .USub (.Constant (.int 1) k p1) p2)) (tPart (tUn (rU fun i => .int (-i)) (tC (.int 1)))) := po_some (pe_un un_neg pe_int)
  refine wpAny_Slice (thn (po_none.run pins s1 σ H1 (fun o H2 => o = none ∧ H2 = H1) I1 ⟨rfl, rfl⟩) fun vl s2 ⟨l, H2, IR, pl, el, e2⟩ => ?_)
  subst el e2
  refine thn (po_none.run pins s2 σ H2 (fun o H3 => o = none ∧ H3 = H2) IR ⟨rfl, rfl⟩) fun vu s3 ⟨u, H3, IT, pu, eu, e3⟩ => ?_
  subst eu e3
  refine thn (hsz0.run pins s3 σ H3 (fun o H4 => o = some (-1) ∧ H4 = H3) IT ⟨1, rfl, -1, rfl, rfl, rfl⟩) fun vs s4 ⟨o, H4, IU, ps, eo, e4⟩ => ?_
  subst eo e4
  have IV : Inv X pins σ H4 { s4 with heap := s4.heap.push { cls := .type "slice", data := .fields #[vl, vu, vs] } } := IU.kept (t' := s4.toks) fun b ob q => Heap.get?_push_of_some _ q
  obtain ⟨its, r, ht, hz⟩ := IV.tuple hx
  have hlen := r.length
  show wpAny (model X.prog X.w) X.A (subscriptTail e (.Slice none none (some (.UnaryOp .USub (.Constant (.int 1) k p1) p2)) p3) (.ref a)
        (.ref s4.heap.objs.size)) (EP X pins σ Q) X.xe { s4 with heap := s4.heap.push { cls := .type "slice", data := .fields #[vl, vu, vs] } }
  refine tail_any (ops := [.ref a, .ref s4.heap.objs.size]) ht.typeIs (PyProof.Rows.slot_tuple_getitem.lookup) ?_ (by with_unfolding_all rfl)
  cases pl
  cases pu
  cases ps with
  | int i t1 =>
    refine item_back (t1 := t1) ht (Heap.IsSliceOf.new ..) ?_ (by rw [List.size_toArray]; omega)
    refine ⟨.ref _, _, IV.laid (t' := s4.toks) (o := .tup xs.reverse) (fun b ob q => Heap.get?_push_of_some _ q) (Nat.le_refl _) ?_, rfl, q _ (IV.hok.fresh (Nat.le_refl _))⟩
    exact ⟨by rw [List.length_reverse]; exact hz, _, r.reverse, IsTup.new _ _⟩
end
end Ur

namespace Ur
open PySem L2 PyProof.Rows
/-! ### lcm of numbers of some size -/
def rLcm : List V → Hp → VK → Prop := fun vs H Q => ∃ a b : Nat, vs = [.int (a : Int), .int (b : Int)] ∧ a < 2 ^ 3000 ∧ b < 2 ^ 3000 ∧ Q (.int ((Nat.lcm a b : Nat) : Int)) H
theorem lcm_lt {a b : Nat} (ha : a < 2 ^ 3000) (hb : b < 2 ^ 3000) : Nat.lcm a b < 2 ^ 6000 := by
  have h1 : Nat.lcm a b ≤ a * b := Nat.div_le_self _ _
  have h2 : a * b < 2 ^ 3000 * 2 ^ 3000 := Nat.mul_lt_mul'' ha hb
  rw [← Nat.pow_add] at h2
  exact Nat.lt_of_le_of_lt h1 h2
theorem log_lt {n k : Nat} (h : n < 2 ^ (k + 1)) : n.log2 ≤ k := by
  by_cases h0 : n = 0
  · rw [h0, Nat.log2_zero]
    exact Nat.zero_le _
  · exact Nat.le_of_lt_succ
        ((Nat.log2_lt h0).mpr h)
theorem cr_lcm {X : Cx} : CallR X (.builtin "math.lcm") rLcm := by
  intro pins s σ
        H vs us Q I r h
  obtain ⟨a, b, rfl, ha, hb, q⟩ := h
  obtain ⟨t, u, rfl⟩
        := Vals.int2 r
  have p1 : 1 < 2 ^ 3000 := Nat.one_lt_two_pow (by decide)
  have h1 : (max 1 (a : Int).natAbs).log2 ≤ 2999 := log_lt (by
    show max 1 (a : Int).natAbs < 2 ^ 3000
    rw [Int.natAbs_natCast]
    exact Nat.max_lt.mpr ⟨p1, ha⟩)
  have h2 : (max (a : Int).natAbs (b : Int).natAbs).log2 ≤ 2999 := log_lt (by
    show max (a : Int).natAbs (b : Int).natAbs < 2 ^ 3000
    rw [Int.natAbs_natCast, Int.natAbs_natCast]
    exact Nat.max_lt.mpr ⟨ha, hb⟩)
  have ec : (((Nat.lcm 1 (a : Int).natAbs).lcm (b : Int).natAbs : Nat) : Int) = ((Nat.lcm a b : Nat) : Int) := by simp [Nat.lcm]
  have hz : (((Nat.lcm a b : Nat) : Int)).natAbs.log2 < bitsLine := by
    rw [Int.natAbs_natCast]
    exact Nat.lt_of_le_of_lt (log_lt (k := 5999) (lcm_lt ha hb)) (by decide)
  have g := PySem.W.mg_run_lcm (a : Int) t (b : Int) u (by omega) (by omega) (by rw [ec]; exact hz)
  rw [ec] at g
  exact PySem.call_function_meets PySem.W.MGF.kind_lcm PySem.W.MGF.plain_lcm PySem.W.MGF.entry_lcm (PySem.W.MGF.args_lcm _ _) g.meets ⟨.int _, H, I.tok _, ⟨_, rfl⟩, q⟩
/-! ### the same rules, their K told -/
section
variable {X : Cx} {K : PySem.W.Frag}
theorem neD_K (hK : X.K = K) (hu : X.A.units + 64 < cLine) : OpR X (compareOp .NotEq) (rNeD K) := by
  subst hK
  exact op_neD hu
theorem eqD_K (hK : X.K = K) (hu : X.A.units + 64 < cLine) : OpR X (compareOp .Eq) (rEqD K) := by
  subst hK
  exact op_eqD hu
theorem inD_K (hK : X.K = K) (hu : X.A.units + 65 < cLine) : OpR X (compareOp .In) (rInD K) := by
  subst hK
  exact op_inD hu
theorem notInD_K (hK : X.K = K) (hu : X.A.units + 65 < cLine) : OpR X (compareOp .NotIn) (rNotInD K) := by
  subst hK
  exact op_notInD hu
end
/-! ### targets of three -/
abbrev gTrip (K : PySem.W.Frag) (i j l : Nat) : TG := gTup K 3 (gCons (gName i) (gCons (gName j) (gCons (gName l) gNil)))
theorem trip_in {K : PySem.W.Frag} {i j l : Nat} {T : Addr} {x y z : V} {σ : L2.St} {H : Hp} {Q : L2.St → Hp → Prop} (h : SqT K H T [x, y, z]) (q : Q (((σ.set i (some x)).set j (some y)).set l (some z)) H) : gTrip K i j l (.ref T) σ H Q :=
  ⟨T, [x, y, z], rfl, h, rfl, x, [y, z], rfl, y, [z], rfl, z, [], rfl, rfl, q⟩
theorem pair_in2 {K : PySem.W.Frag} {i j : Nat} {T : Addr} {x y : V} {σ : L2.St} {H : Hp} {Q : L2.St → Hp → Prop} (h : SqT K H T [x, y]) (q : Q ((σ.set i (some x)).set j (some y)) H) : gPair K i j (.ref T) σ H Q :=
  ⟨T, [x, y], rfl, h, rfl, x, [y], rfl, y, [], rfl, rfl, q⟩
/-! ### comprehensions of what stands in the heap -/
structure MadeH (H : Hp) (Pe : Hp → Nat → V → Prop) (D : Addr) (i : Nat) (H' : Hp) : Prop where
  new : H D = none
  same : Same H H'
  held : ∃ ys, H' D = some (.lst ys) ∧ ys.length = i ∧ ∀ j y, ys[j]? = some y → Pe H' j y
theorem MadeH.start {H : Hp} {Pe : Hp → Nat → V → Prop} {D : Addr} (h : H D = none) : MadeH H Pe D 0 (upd H D (.lst [])) :=
  ⟨h, same_new h, [], upd_same, rfl, fun j y e => by simp at e⟩
/-- what is told of an item stays when the list itself changes -/
abbrev Mono (H : Hp) (Pe : Hp → Nat → V → Prop) : Prop := ∀ (D : Addr) (H1 H2 : Hp) j y, H D = none → (∃ ys, H1 D = some (.lst ys)) → Same H H1 → (∀ a u, a ≠ D → H1 a = some u → H2 a = some u) → Pe H1 j y → Pe H2 j y
theorem MadeH.on {H H3 H4 : Hp} {Pe : Hp → Nat → V → Prop} (hm : Mono H Pe) {D : Addr} {i : Nat} (m : MadeH H Pe D i H3) (s : Same H3 H4) : MadeH H Pe D i H4 := by
  obtain ⟨hn, sm, ys, h1, h2, h3⟩ := m
  exact ⟨hn, sm.trans s, ys, s _ _ h1, h2, fun j y e => hm D _ _ j y hn ⟨_, h1⟩ sm (fun a u _ q => s a u q) (h3 j y e)⟩
theorem MadeH.turn {H H3 : Hp} {Pe : Hp → Nat → V → Prop} (hm : Mono H Pe) {D : Addr} {i : Nat} {te : TE} {σ2 : L2.St} (m : MadeH H Pe D i H3) (hi : i < 100000)
    (he : ∀ Q' : VK, (∀ y H4, Pe H4 i y → Same H3 H4 → Q' y H4) → te σ2 H3 Q') :
    te σ2 H3 fun y H4 => ∃ acc, H4 D = some (.lst acc) ∧ acc.length < sizeLine ∧ MadeH H Pe D (i + 1) (upd H4 D (.lst (acc ++ [y]))) := by
  obtain ⟨hn, sm, ys, h1, h2, h3⟩ := m
  refine he _ fun y H4 py s4 => ⟨ys, s4 _ _ h1, Nat.lt_of_lt_of_le (by omega : ys.length < 100000) (by decide), hn, same_own (sm.trans s4) hn, ys ++ [y], upd_same, by simp [h2], fun j z e => ?_⟩
  have keep : ∀ a u, a ≠ D → H4 a = some u → upd H4 D (.lst (ys ++ [y])) a = some u := fun a u ne q => by rw [upd_ne ne]; exact q
  by_cases hj : j < ys.length
  · rw [List.getElem?_append_left hj] at e
    exact hm D _ _ j z hn ⟨_, h1⟩ sm (fun a u ne q => keep a u ne (s4 a u q)) (h3 j z e)
  · rw [List.getElem?_append_right (by omega)] at e
    have : j = i := by
      have hl := (List.getElem?_eq_some_iff.mp e).1
      simp at hl
      omega
    subst this
    rw [← h2, Nat.sub_self] at e
    obtain rfl := Option.some.inj e
    exact hm D _ _ j _ hn ⟨_, s4 _ _ h1⟩ (sm.trans s4) keep py
section
variable {K : PySem.W.Frag} {a : Addr} {xs : List V} {te tl : TE} {ta : TA} {tt : TT} {vs : List Nat} {i1 j1 l1 : Nat} {σ : L2.St} {H : Hp} {Q : VK}
/-- [e for x, y, z in t], t a tuple -/
theorem lcT3 (pt : Nat → V × V × V) (Pe : Hp → Nat → V → Prop) (hm : Mono H Pe) (hx : ∀ R : VK, R (.ref a) H → tl σ H R) (hs : SqT K H a xs) (hp : ∀ (i : Nat) x, xs[i]? = some x → ∃ T, x = .ref T ∧ SqT K H T [(pt i).1, (pt i).2.1, (pt i).2.2]) (hz : xs.length ≤ 100000)
    (hw : ∀ x y z, wipe ((((wipe σ vs).set i1 (some x)).set j1 (some y)).set l1 (some z)) vs = wipe σ vs)
    (he : ∀ (i : Nat) x H3, xs[i]? = some x → Same H H3 → ∀ Q' : VK, (∀ y H4, Pe H4 i y → Same H3 H4 → Q' y H4) → te ((((wipe σ vs).set i1 (some (pt i).1)).set j1 (some (pt i).2.1)).set l1 (some (pt i).2.2)) H3 Q')
    (hq : ∀ D ys H', H D = none → Same H H' → H' D = some (.lst ys) → ys.length = xs.length → (∀ i y, ys[i]? = some y → Pe H' i y) → Q (.ref D) H') : tLc (iTup K tl) (gTrip K i1 j1 l1) tYes te vs σ H Q := by
  refine hx _ ⟨a, rfl, ⟨xs, hs⟩, fun D hD => ?_⟩
  refine lc_tup (xs := xs) (MadeH H Pe D) (.start hD) (fun i H' _ m => same_sqT m.same hs) (fun i x H' hi m => ?_) (fun H' ⟨hn, sm, ys, h1, h2, h3⟩ => hq D ys H' hn sm h1 h2 h3)
  obtain ⟨T, e, ht⟩ := hp i x hi
  rw [e]
  refine trip_in (same_sqT m.same ht) ⟨hw _ _ _, ?_⟩
  have hl := (List.getElem?_eq_some_iff.mp hi).1
  unfold tYes
  dsimp only
  rw [if_pos rfl]
  exact (m.turn hm (by omega) (he i x H' hi m.same))
/-- [e for x, y in l], l a list -/
theorem lcL2 (pt : Nat → V × V) (Pe : Hp → Nat → V → Prop) (hm : Mono H Pe) (hx : ∀ R : VK, R (.ref a) H → tl σ H R) (hs : SqL K H a xs) (hp : ∀ (i : Nat) x, xs[i]? = some x → ∃ T, x = .ref T ∧ SqT K H T [(pt i).1, (pt i).2]) (hz : xs.length ≤ 100000)
    (hw : ∀ x y, wipe (((wipe σ vs).set i1 (some x)).set j1 (some y)) vs = wipe σ vs)
    (he : ∀ (i : Nat) x H3, xs[i]? = some x → Same H H3 → ∀ Q' : VK, (∀ y H4, Pe H4 i y → Same H3 H4 → Q' y H4) → te (((wipe σ vs).set i1 (some (pt i).1)).set j1 (some (pt i).2)) H3 Q')
    (hq : ∀ D ys H', H D = none → Same H H' → H' D = some (.lst ys) → ys.length = xs.length → (∀ i y, ys[i]? = some y → Pe H' i y) → Q (.ref D) H') : tLc (iList K tl) (gPair K i1 j1) tYes te vs σ H Q := by
  refine hx _ ⟨a, rfl, ⟨xs, hs⟩, fun D hD => ?_⟩
  refine lc_list (xs := xs) (MadeH H Pe D) (.start hD) (fun i H' _ m => m.same.seq hs) (fun i x H' hi m => ?_) (fun H' ⟨hn, sm, ys, h1, h2, h3⟩ => hq D ys H' hn sm h1 h2 h3)
  obtain ⟨T, e, ht⟩ := hp i x hi
  rw [e]
  refine pair_in2 (same_sqT m.same ht) ⟨hw _ _, ?_⟩
  have hl := (List.getElem?_eq_some_iff.mp hi).1
  unfold tYes
  dsimp only
  rw [if_pos rfl]
  exact (m.turn hm (by omega) (he i x H' hi m.same))
/-- [e for x in l], l a list -/
theorem lcLh (Pe : Hp → Nat → V → Prop) (hm : Mono H Pe) (hx : ∀ R : VK, R (.ref a) H → tl σ H R) (hs : SqL K H a xs) (hz : xs.length ≤ 100000)
    (hw : ∀ x, wipe ((wipe σ vs).set j1 (some x)) vs = wipe σ vs)
    (he : ∀ (i : Nat) x H3, xs[i]? = some x → Same H H3 → ∀ Q' : VK, (∀ y H4, Pe H4 i y → Same H3 H4 → Q' y H4) → te ((wipe σ vs).set j1 (some x)) H3 Q')
    (hq : ∀ D ys H', H D = none → Same H H' → H' D = some (.lst ys) → ys.length = xs.length → (∀ i y, ys[i]? = some y → Pe H' i y) → Q (.ref D) H') : tLc (iList K tl) (gName j1) tYes te vs σ H Q := by
  refine hx _ ⟨a, rfl, ⟨xs, hs⟩, fun D hD => ?_⟩
  refine lc_list (xs := xs) (MadeH H Pe D) (.start hD) (fun i H' _ m => m.same.seq hs) (fun i x H' hi m => ⟨hw x, ?_⟩) (fun H' ⟨hn, sm, ys, h1, h2, h3⟩ => hq D ys H' hn sm h1 h2 h3)
  have hl := (List.getElem?_eq_some_iff.mp hi).1
  unfold tYes
  dsimp only
  rw [if_pos rfl]
  exact (m.turn hm (by omega) (he i x H' hi m.same))
/-- [e for x in t], t a tuple -/
theorem lcTh (Pe : Hp → Nat → V → Prop) (hm : Mono H Pe) (hx : ∀ R : VK, R (.ref a) H → tl σ H R) (hs : SqT K H a xs) (hz : xs.length ≤ 100000)
    (hw : ∀ x, wipe ((wipe σ vs).set j1 (some x)) vs = wipe σ vs)
    (he : ∀ (i : Nat) x H3, xs[i]? = some x → Same H H3 → ∀ Q' : VK, (∀ y H4, Pe H4 i y → Same H3 H4 → Q' y H4) → te ((wipe σ vs).set j1 (some x)) H3 Q')
    (hq : ∀ D ys H', H D = none → Same H H' → H' D = some (.lst ys) → ys.length = xs.length → (∀ i y, ys[i]? = some y → Pe H' i y) → Q (.ref D) H') : tLc (iTup K tl) (gName j1) tYes te vs σ H Q := by
  refine hx _ ⟨a, rfl, ⟨xs, hs⟩, fun D hD => ?_⟩
  refine lc_tup (xs := xs) (MadeH H Pe D) (.start hD) (fun i H' _ m => same_sqT m.same hs) (fun i x H' hi m => ⟨hw x, ?_⟩) (fun H' ⟨hn, sm, ys, h1, h2, h3⟩ => hq D ys H' hn sm h1 h2 h3)
  have hl := (List.getElem?_eq_some_iff.mp hi).1
  unfold tYes
  dsimp only
  rw [if_pos rfl]
  exact (m.turn hm (by omega) (he i x H' hi m.same))
/-- [e for x in range(n)], n drawn -/
theorem lcRh {ta : TA} {H0 : Hp} (Pn : Int → Prop) (Pe : Hp → Nat → V → Prop) (hx : ∀ R : List V → Hp → Prop, (∀ n H1, Pn n → Same H0 H1 → R [.int n] H1) → ta σ H0 R) (hb : ∀ n, Pn n → 0 ≤ n ∧ n ≤ 100000)
    (hm : ∀ H1, Same H0 H1 → Mono H1 Pe) (hw : ∀ x, wipe ((wipe σ vs).set j1 (some x)) vs = wipe σ vs)
    (he : ∀ (n : Int) (i : Nat) (H3 : Hp), Pn n → i < n → Same H0 H3 → ∀ Q' : VK, (∀ y H4, Pe H4 i y → Same H3 H4 → Q' y H4) → te ((wipe σ vs).set j1 (some (.int (0 + (i : Int))))) H3 Q')
    (hq : ∀ n D ys H', Pn n → H0 D = none → Same H0 H' → H' D = some (.lst ys) → (ys.length : Int) = n → (∀ i y, ys[i]? = some y → Pe H' i y) → Q (.ref D) H') : tLc (iRng1 ta) (gName j1) tYes te vs σ H0 Q := by
  refine hx _ fun n H1 pn s1 => ⟨n, rfl, by have := hb n pn; omega, by have := hb n pn; omega, fun D hD => ?_⟩
  have hn := hb n pn
  refine lc_range (lo := 0) (n := n.toNat) (MadeH H1 Pe D) (.start hD) (fun i H' hi m => ⟨hw _, ?_⟩) (fun H' ⟨hn, sm, ys, h1, h2, h3⟩ => hq n D ys H' pn (s1.free hn) (s1.trans sm) h1 (by omega) h3)
  unfold tYes
  dsimp only
  rw [if_pos rfl]
  exact m.turn (hm H1 s1) (by omega) (he n i H' pn (by omega) (s1.trans m.same))
/-! ### comprehensions with a test -/
/-- what passes of the first i -/
def accF {α : Type} (f : Nat → Bool) (xs : List α) : Nat → List α
  | 0 => []
  | i + 1 => if f i then accF f xs i ++ (xs[i]?).toList else accF f xs i
theorem accF_len {α : Type} (f : Nat → Bool) (xs : List α) : ∀ i, (accF f xs i).length ≤ i
  | 0 => Nat.le_refl _
  | i + 1 => by
    have := accF_len f xs i
    unfold accF
    split
    · rw [List.length_append]
      have : (xs[i]?).toList.length ≤ 1 := by cases xs[i]? <;> simp
      omega
    · omega
structure KeptF (H : Hp) (f : Nat → Bool) (xs : List V) (D : Addr) (i : Nat) (H' : Hp) : Prop where
  new : H D = none
  same : Same H H'
  held : H' D = some (.lst (accF f xs i))
theorem KeptF.put {f : Nat → Bool} {D : Addr} {i : Nat} {H3 H4 : Hp} {x : V} (m : KeptF H f xs D i H3) (s : Same H3 H4) (hi : xs[i]? = some x) (h : f i = true) : KeptF H f xs D (i + 1) (upd H4 D (.lst (accF f xs i ++ [x]))) :=
  ⟨m.new, same_own (m.same.trans s) m.new, by rw [upd_same]; show _ = some (HO.lst (if f i = true then _ else _)); rw [if_pos h, hi]; rfl⟩
theorem KeptF.skip {f : Nat → Bool} {D : Addr} {i : Nat} {H3 H4 : Hp} (m : KeptF H f xs D i H3) (s : Same H3 H4) (h : f i = false) : KeptF H f xs D (i + 1) H4 :=
  ⟨m.new, m.same.trans s, by
    show _ = some (HO.lst (if f i = true then _ else _))
    rw [h, if_neg Bool.false_ne_true]
    exact s _ _ m.held⟩
/-- [x for i, x in enumerate(l) if test] -/
theorem lcEf (f : Nat → Bool) (hx : ∀ R : List V → Hp → Prop, R [.ref a] H → ta σ H R) (hs : SqL K H a xs) (hz : xs.length ≤ 100000)
    (hw : ∀ x y, wipe (((wipe σ vs).set i1 (some x)).set j1 (some y)) vs = wipe σ vs)
    (ht : ∀ (i : Nat) x H3, xs[i]? = some x → Same H H3 → ∀ Q' : Bool → Hp → Prop, (∀ H4, Same H3 H4 → Q' (f i) H4) → tt (((wipe σ vs).set i1 (some (.int (i : Nat)))).set j1 (some x)) H3 Q')
    (he : ∀ (i : Nat) x H3 (Q' : VK), Q' x H3 → te (((wipe σ vs).set i1 (some (.int (i : Nat)))).set j1 (some x)) H3 Q')
    (hq : ∀ D H', H D = none → Same H H' → H' D = some (.lst (accF f xs xs.length)) → Q (.ref D) H') : tLc (iEnum K ta) (gPair K i1 j1) tt te vs σ H Q := by
  refine hx _ ⟨a, xs, rfl, hs, fun D hD => ?_⟩
  refine lc_it (walk_enum (K := K) (a := a) (xs := xs)) (KeptF H f xs D) ⟨hD, same_new hD, upd_same⟩ (fun i H' _ m => m.same.seq hs) (fun i v H3 H' hi m hY => ?_) (fun H' m => hq D H' m.new m.same m.held)
  obtain ⟨T, x, y', h1, h2, h3, h4, h5⟩ := hY
  cases h4
  subst h1 h3
  have s3 := same_new (p := T) (o := HO.tup [.int (i : Nat), y']) h2
  refine pair_in upd_same ⟨hw _ _, ?_⟩
  refine ht i y' _ h5 (m.same.trans s3) _ fun H4 s4 => ?_
  have s34 := s3.trans s4
  cases hf : f i with
  | true =>
    rw [if_pos rfl]
    exact he i y' _ _ ⟨accF f xs i, s34 _ _ m.held, Nat.lt_of_le_of_lt (accF_len f xs i) (Nat.lt_of_lt_of_le (by omega : i < 100001) (by decide)), m.put s34 h5 hf⟩
  | false =>
    rw [if_neg
          Bool.false_ne_true]
    exact m.skip s34 hf
/-- [x for x in l if test] -/
theorem lcLf (f : Nat → Bool) (hx : ∀ R : VK, R (.ref a) H → tl σ H R) (hs : SqL K H a xs) (hz : xs.length ≤ 100000)
    (hw : ∀ x, wipe ((wipe σ vs).set j1 (some x)) vs = wipe σ vs)
    (ht : ∀ (i : Nat) x H3, xs[i]? = some x → Same H H3 → ∀ Q' : Bool → Hp → Prop, (∀ H4, Same H3 H4 → Q' (f i) H4) → tt ((wipe σ vs).set j1 (some x)) H3 Q')
    (he : ∀ (i : Nat) x H3 (Q' : VK), Q' x H3 → te ((wipe σ vs).set j1 (some x)) H3 Q')
    (hq : ∀ D H', H D = none → Same H H' → H' D = some (.lst (accF f xs xs.length)) → Q (.ref D) H') : tLc (iList K tl) (gName j1) tt te vs σ H Q := by
  refine hx _ ⟨a, rfl, ⟨xs, hs⟩, fun D hD => ?_⟩
  refine lc_list (xs := xs) (KeptF H f xs D) ⟨hD, same_new hD, upd_same⟩ (fun i H' _ m => m.same.seq hs) (fun i x H' hi m => ⟨hw x, ?_⟩) (fun H' m => hq D H' m.new m.same m.held)
  have hl := (List.getElem?_eq_some_iff.mp hi).1
  refine ht i x _ hi m.same _ fun H4 s4 => ?_
  cases hf : f i with
  | true =>
    rw [if_pos rfl]
    exact he i x _ _ ⟨accF f xs i, s4 _ _ m.held, Nat.lt_of_le_of_lt (accF_len f xs i) (Nat.lt_of_lt_of_le (by omega : i < 100001) (by decide)), m.put s4 hi hf⟩
  | false =>
    rw [if_neg
          Bool.false_ne_true]
    exact m.skip s4 hf
end
end Ur

namespace Hull
/-! ### chains of points that bend to the left -/
abbrev P := Int × Int
def tt (a b c : P) : Int := (b.1 - a.1) * (c.2 - a.2) - (b.2 - a.2) * (c.1 - a.1)
def lt (a b : P) : Prop := a.1 < b.1 ∨ (a.1 = b.1 ∧ a.2 < b.2)
instance (a b : P) : Decidable (lt a b) := by unfold lt; exact inferInstance
section gen
variable {α β : Type}
/-- what is left of a stack when p comes: t tells that the top goes -/
def popw (t : α → α → α → Bool) (p : α) : List α → List α
  | b :: a :: r => if t a b p then popw t p (a :: r) else b :: a :: r
  | [a] => [a]
  | [] => []
def step (t : α → α → α → Bool) (st : List α) (p : α) : List α := p :: popw t p st
def stack (t : α → α → α → Bool) (l : List α) : List α := l.foldl (step t) []
def bends (t : α → α → α → Bool) (l : List α) : List α := (stack t l).reverse
theorem popw_map {t : α → α → α → Bool} {u : β → β → β → Bool} {g : α → β} (h : ∀ a b c, u (g a) (g b) (g c) = t a b c) (p : α) : ∀ st : List α, popw u (g p) (st.map g) = (popw t p st).map g
  | [] => rfl
  | [a] => rfl
  | b :: a :: r => by
    show (if u (g a) (g b) (g p) then popw u (g p) ((a :: r).map g) else (b :: a :: r).map g) = _
    rw [h, popw_map h p (a :: r)]
    show _ = (if t a b p then popw t p (a :: r) else b :: a :: r).map g
    split <;> rfl
theorem foldl_map' {t : α → α → α → Bool} {u : β → β → β → Bool} {g : α → β} (h : ∀ a b c, u (g a) (g b) (g c) = t a b c) : ∀ (l st : List α), (l.map g).foldl (step u) (st.map g) = (l.foldl (step t) st).map g
  | [], st => rfl
  | p :: l, st => by
    show (l.map g).foldl (step u) (g p :: popw u (g p) (st.map g)) = _
    rw [popw_map h p st]
    exact foldl_map' h l (p :: popw t p st)
theorem stack_map {t : α → α → α → Bool} {u : β → β → β → Bool} {g : α → β} (h : ∀ a b c, u (g a) (g b) (g c) = t a b c) (l : List α) : stack u (l.map g) = (stack t l).map g := foldl_map' h l []
theorem bends_map {t : α → α → α → Bool} {u : β → β → β → Bool} {g : α → β} (h : ∀ a b c, u (g a) (g b) (g c) = t a b c) (l : List α) : bends u (l.map g) = (bends t l).map g := by
  unfold bends
  rw [stack_map h, List.map_reverse]
/-- the corners, by the points in their order -/
def hull (t : α → α → α → Bool) (l : List α) : List α := if l.length < 2 then l else (bends t l).dropLast ++ (bends t l.reverse).dropLast
theorem hull_map {t : α → α → α → Bool} {u : β → β → β → Bool} {g : α → β} (h : ∀ a b c, u (g a) (g b) (g c) = t a b c) (l : List α) : hull u (l.map g) = (hull t l).map g := by
  unfold hull
  rw [List.length_map]
  split
  · rfl
  · rw [bends_map h, ← List.map_reverse, bends_map h, List.map_append, List.map_dropLast, List.map_dropLast]
end gen
def gone (a b c : P) : Bool := decide (tt a b c ≤ 0)
/-! ### signs -/
def cr (u v : P) : Int := u.1 * v.2 - u.2 * v.1
def Up (u : P) : Prop := 0 < u.1 ∨ (u.1 = 0 ∧ 0 < u.2)
def mi (a b : P) : P := (a.1 - b.1, a.2 - b.2)
theorem up_of {a b : P} (h : lt a b) : Up (mi b a) := by
  unfold lt at h; unfold Up mi
  rcases h with h | ⟨h, k⟩
  · exact Or.inl (show 0 < b.1 - a.1 by omega)
  · exact Or.inr ⟨show b.1 - a.1 = 0 by omega, show 0 < b.2 - a.2 by omega⟩
theorem up_x {u : P} (h : Up u) : 0 ≤ u.1 := by rcases h with h | ⟨h, _⟩ <;> omega
theorem cr_id1 (u v w : P) : cr u w * v.1 = cr u v * w.1 + cr v w * u.1 := by
  unfold cr; grind
theorem cr_le {u v w : P} (hu : Up u) (hv : Up v) (hw : Up w) (h1 : cr u v ≤ 0) (h2 : cr v w ≤ 0) : cr u w ≤ 0 := by
  have xu := up_x hu
  have xw := up_x hw
  rcases hv with hv | ⟨hv, hy⟩
  · have e := cr_id1 u v w
    have a1 : cr u v * w.1 ≤ 0 := Int.mul_nonpos_of_nonpos_of_nonneg h1 xw
    have a2 : cr v w * u.1 ≤ 0 := Int.mul_nonpos_of_nonpos_of_nonneg h2 xu
    have e2 : cr u w * v.1 ≤ 0 := by omega
    by_cases g : cr u w ≤ 0
    · exact g
    · have := Int.mul_pos (show 0 < cr u w by omega) hv
      omega
  · have e : cr u v = u.1 * v.2 := by unfold cr; rw [hv]; grind
    have u0 : u.1 = 0 := by
      by_cases g : u.1 = 0
      · exact g
      · have := Int.mul_pos (show 0 < u.1 by omega) hy
        omega
    have uy : 0 < u.2 := by rcases hu with q | ⟨_, q⟩; omega; exact q
    have e2 : cr u w = -(u.2 * w.1) := by unfold cr; rw [u0]; grind
    have := Int.mul_nonneg (Int.le_of_lt uy) xw
    omega
theorem cr_pos {u v w : P} (hu : Up u) (hv : Up v) (hw : Up w) (h1 : 0 < cr u v) (h2 : 0 < cr v w) : 0 < cr u w := by
  have xu := up_x hu
  have xw := up_x hw
  rcases hv with hv | ⟨hv, hy⟩
  · have e := cr_id1 u v w
    have a1 : 0 ≤ cr u v * w.1 := Int.mul_nonneg (Int.le_of_lt h1) xw
    have a2 : 0 ≤ cr v w * u.1 := Int.mul_nonneg (Int.le_of_lt h2) xu
    have u0 : 0 < u.1 := by
      rcases hu with q | ⟨q, qy⟩
      · exact q
      · have e1 : cr u v = -(u.2 * v.1) := by unfold cr; rw [q]; grind
        have := Int.mul_pos qy hv
        omega
    have a3 : 0 < cr v w * u.1 := Int.mul_pos h2 u0
    by_cases g : 0 < cr u w
    · exact g
    · have : cr u w * v.1 ≤ 0 := Int.mul_nonpos_of_nonpos_of_nonneg (by omega) (Int.le_of_lt hv)
      omega
  · have e : cr v w = -(v.2 * w.1) := by unfold cr; rw [hv]; grind
    have := Int.mul_nonneg (Int.le_of_lt hy) xw
    omega
theorem lt_irrefl {a : P} : ¬ lt a a := by unfold lt; omega
theorem lt_trans {a b c : P} (h : lt a b) (k : lt b c) : lt a c := by unfold lt at *; omega
theorem lt_asymm {a b : P} (h : lt a b) : ¬ lt b a := by unfold lt at *; omega
theorem lt_tri (a b : P) : lt a b ∨ a = b ∨ lt b a := by
  unfold lt
  rcases a with ⟨a1, a2⟩
  rcases b with ⟨b1, b2⟩
  simp only [Prod.mk.injEq]
  omega
/-- q < b < c, a < b: beyond a convex bend at b -/
theorem bend_on {q a b c : P} (h1 : lt q a) (h2 : lt a b) (h3 : lt b c) (t1 : 0 < tt q a b) (t2 : 0 < tt a b c) : 0 < tt q b c := by
  have k := cr_pos (up_of h1) (up_of h2) (up_of h3) (by have e : cr (mi a q) (mi b a) = tt q a b := by unfold cr mi tt; grind
                                                        omega) (by have e : cr (mi b a) (mi c b) = tt a b c := by unfold cr mi tt; grind
                                                                   omega)
  have e : tt q b c = cr (mi a q) (mi c b) + tt a b c := by unfold cr mi tt; grind
  omega
theorem bend_in {q a b c : P} (h1 : lt a q) (h2 : lt q b) (h3 : lt b c) (t1 : 0 ≤ tt a b q) (t2 : 0 < tt a b c) : 0 < tt q b c := by
  by_cases g : 0 < tt q b c
  · exact g
  · have k := cr_le (up_of h1) (up_of h2) (up_of h3) (by have e : cr (mi q a) (mi b q) = - tt a b q := by unfold cr mi tt; grind
                                                         omega) (by have e : cr (mi b q) (mi c b) = tt q b c := by unfold cr mi tt; grind
                                                                    omega)
    have e : tt a b c = cr (mi q a) (mi c b) + tt q b c := by unfold cr mi tt; grind
    omega
theorem gone_low {a q b p : P} (h1 : lt a q) (h2 : lt q b) (h3 : lt b p) (t1 : 0 ≤ tt a b q) (t2 : tt a b p ≤ 0) : 0 ≤ tt a p q := by
  have e1 : cr (mi q a) (mi b q) = - tt a b q := by unfold cr mi tt; grind
  have e2 : tt a b p = cr (mi q a) (mi p b) + cr (mi b q) (mi p b) := by unfold cr mi tt; grind
  have e3 : tt a p q = - cr (mi q a) (mi b q) - cr (mi q a) (mi p b) := by unfold cr mi tt; grind
  by_cases g : cr (mi q a) (mi p b) ≤ 0
  · omega
  · have k := cr_le (up_of h1) (up_of h2) (up_of h3) (by omega) (by omega)
    omega
theorem gone_high {a q b p : P} (h1 : lt a b) (h2 : lt b q) (h3 : lt q p) (t1 : 0 ≤ tt b p q) (t2 : tt a b p ≤ 0) : 0 ≤ tt a p q := by
  have e1 : cr (mi q b) (mi p q) = - tt b p q := by unfold cr mi tt; grind
  have e2 : tt a b p = cr (mi b a) (mi q b) + cr (mi b a) (mi p q) := by unfold cr mi tt; grind
  have e3 : tt a p q = - cr (mi b a) (mi p q) - cr (mi q b) (mi p q) := by unfold cr mi tt; grind
  by_cases g : cr (mi b a) (mi p q) ≤ 0
  · omega
  · have k := cr_le (up_of h1) (up_of h2) (up_of h3) (by omega) (by omega)
    omega
/-! ### the lower chain, told by what it is -/
def Cvx : List P → Prop
  | c :: b :: a :: r => 0 < tt a b c ∧ Cvx (b :: a :: r)
  | _ => True
def Cov (L : List P) : List P → Prop
  | b :: a :: r => (∀ q ∈ L, lt a q → lt q b → 0 ≤ tt a b q) ∧ Cov L (a :: r)
  | _ => True
abbrev Desc (st : List P) : Prop := st.Pairwise fun b a => lt a b
abbrev Asc (l : List P) : Prop := l.Pairwise lt
structure Low (L st : List P) : Prop where
  mem : ∀ p ∈ st, p ∈ L
  top : st.head? = L.getLast?
  bot : st.getLast? = L.head?
  desc : Desc st
  cvx : Cvx st
  cov : Cov L st
theorem Cvx.tail {b : P} {r : List P} (h : Cvx (b :: r)) : Cvx r := by
  match r, h with
  | [], _ => trivial
  | [a], _ => trivial
  | a :: c :: r, h => exact h.2
theorem Cov.tail {L : List P} {b : P} {r : List P} (h : Cov L (b :: r)) : Cov L r := by
  match r, h with
  | [], _ => trivial
  | a :: r, h => exact h.2
theorem last_le {b z : P} : ∀ {r : List P}, Desc (b :: r) → (b :: r).getLast? = some z → z = b ∨ lt z b
  | [], _, h => Or.inl (Option.some.inj h).symm
  | a :: r, d, h => by
    rw [List.getLast?_cons_cons]
          at h
    have hab : lt a b := (List.pairwise_cons.mp d).1 a List.mem_cons_self
    rcases last_le (List.pairwise_cons.mp d).2 h with e | e
    · exact Or.inr (e ▸ hab)
    · exact Or.inr (lt_trans e hab)
/-- what is on or above the chain, before its last bend -/
theorem beyond {L : List P} {q z : P} (hq : q ∈ L) : ∀ {r : List P} {b c : P}, Desc (c :: b :: r) → Cvx (c :: b :: r) → Cov L (c :: b :: r) → (b :: r).getLast? = some z → (z = q ∨ lt z q) → lt q b → 0 < tt q b c
  | [], b, c, d, cv, co, hl, hz, hqb => by
    obtain rfl : b = z := Option.some.inj hl
    rcases hz with rfl | hz
    · exact (lt_irrefl hqb).elim
    · exact (lt_asymm hz hqb).elim
  | a :: r, b, c, d, cv, co, hl, hz, hqb => by
    have d2 := (List.pairwise_cons.mp d).2
    have hab : lt a b := (List.pairwise_cons.mp d2).1 a List.mem_cons_self
    have hbc : lt b c := (List.pairwise_cons.mp d).1 b List.mem_cons_self
    rw [List.getLast?_cons_cons] at hl
    rcases lt_tri a q with h | rfl | h
    · exact bend_in h hqb hbc (co.2.1 q hq h hqb) cv.1
    · exact cv.1
    · exact bend_on h hab hbc (beyond hq d2 cv.2 co.2 hl hz h) cv.1
theorem low_uniq' {L : List P} {z : P} : ∀ {s1 s2 : List P}, (∀ p ∈ s1, p ∈ L) → (∀ p ∈ s2, p ∈ L) → s1.head? = s2.head? → s1.getLast? = some z → s2.getLast? = some z → Desc s1 → Desc s2 → Cvx s1 → Cvx s2 → Cov L s1 → Cov L s2 → s1 = s2
  | [], [], _, _, _, _, _, _, _, _, _, _, _ => rfl
  | [], _ :: _, _, _, h, _, _, _, _, _, _, _, _ => nomatch h
  | _ :: _, [], _, _, h, _, _, _, _, _, _, _, _ => nomatch h
  | h1 :: t1, h2 :: t2, m1, m2, hh, l1, l2, d1, d2, c1, c2, o1, o2 => by
    obtain rfl : h1 = h2 := Option.some.inj hh
    cases t1 with
    | nil =>
      cases t2 with
      | nil => rfl
      | cons b r =>
        obtain rfl : h1 = z := Option.some.inj l1
        rw [List.getLast?_cons_cons] at l2
        have hb : lt b h1 := (List.pairwise_cons.mp d2).1 b List.mem_cons_self
        rcases last_le (List.pairwise_cons.mp d2).2 l2 with e | e
        · exact (lt_irrefl (e ▸ hb)).elim
        · exact (lt_asymm e hb).elim
    | cons a r =>
      cases t2 with
      | nil =>
        obtain rfl : h1 = z := Option.some.inj l2
        rw [List.getLast?_cons_cons] at l1
        have hb : lt a h1 := (List.pairwise_cons.mp d1).1 a List.mem_cons_self
        rcases last_le (List.pairwise_cons.mp d1).2 l1 with e | e
        · exact (lt_irrefl (e ▸ hb)).elim
        · exact (lt_asymm e hb).elim
      | cons b r2 =>
        rw [List.getLast?_cons_cons] at l1 l2
        have ha : lt a h1 := (List.pairwise_cons.mp d1).1 a List.mem_cons_self
        have hb : lt b h1 := (List.pairwise_cons.mp d2).1 b List.mem_cons_self
        have flip : ∀ x y w : P, tt x w y = - tt x y w := fun x y w => by unfold tt; grind
        have turn : ∀ x y w : P, tt x y w = tt y w x := fun x y w => by unfold tt; grind
        have ab : a = b := by
          rcases lt_tri a b with h | h | h
          · have k := beyond (m1 a (by simp)) d2 c2 o2 l2 (last_le (List.pairwise_cons.mp d1).2 l1) h
            have k2 := o1.1 b (m2 b (by simp)) h hb
            rw [flip] at k2
            omega
          · exact h
          · have k := beyond (m2 b (by simp)) d1 c1 o1 l1 (last_le (List.pairwise_cons.mp d2).2 l2) h
            have k2 := o2.1 a (m1 a (by simp)) h ha
            rw [flip] at k2
            omega
        subst ab
        rw [low_uniq' (fun p hp => m1 p (List.mem_cons_of_mem _ hp)) (fun p hp => m2 p (List.mem_cons_of_mem _ hp)) rfl l1 l2 (List.pairwise_cons.mp d1).2 (List.pairwise_cons.mp d2).2 c1.tail c2.tail o1.tail o2.tail]
theorem Low.uniq {L s1 s2 : List P} (h1 : Low L s1) (h2 : Low L s2) : s1 = s2 := by
  cases L with
  | nil =>
    have e1 := h1.bot
    have e2 := h2.bot
    rw [List.head?_nil] at e1 e2
    rw [List.getLast?_eq_none_iff.mp e1, List.getLast?_eq_none_iff.mp e2]
  | cons z l => exact low_uniq' h1.mem h2.mem (h1.top.trans h2.top.symm) h1.bot h2.bot h1.desc h2.desc h1.cvx h2.cvx h1.cov h2.cov
/-! ### the stack makes it -/
structure Pre (L st : List P) (p : P) : Prop where
  ne : st ≠ []
  mem : ∀ x ∈ st, x ∈ L
  desc : Desc st
  cvx : Cvx st
  cov : Cov L st
  over : ∀ b r, st = b :: r → ∀ q ∈ L, lt b q → 0 ≤ tt b p q
theorem popped {L : List P} {p : P} (hp : ∀ q ∈ L, lt q p) : ∀ {st : List P}, Pre L st p → Pre L (popw gone p st) p ∧ (popw gone p st).getLast? = st.getLast? ∧ ∀ b a r, popw gone p st = b :: a :: r → 0 < tt a b p
  | [], h => (h.ne rfl).elim
  | [a], h => ⟨h, rfl, fun b a r e => by cases e⟩
  | b :: a :: r, h => by
    show Pre L (if gone a b p then popw gone p (a :: r) else b :: a :: r) p ∧ _
    by_cases g : gone a b p
    · have e : popw gone p (b :: a :: r) = popw gone p (a :: r) := by
        show (if gone a b p then popw gone p (a :: r) else b :: a :: r) = _
        rw [if_pos g]
      rw [if_pos g, e]
      have g' : tt a b p ≤ 0 := of_decide_eq_true g
      have hab : lt a b := (List.pairwise_cons.mp h.desc).1 a List.mem_cons_self
      have hbL : b ∈ L := h.mem b List.mem_cons_self
      have hb : lt b p := hp b hbL
      have h2 : Pre L (a :: r) p := ⟨nofun, fun x hx => h.mem x (List.mem_cons_of_mem _ hx), (List.pairwise_cons.mp h.desc).2, h.cvx.tail, h.cov.tail, fun b' r' eq q hq hl => by
        cases eq
        rcases lt_tri q b with k | rfl | k
        · exact gone_low hl k hb (h.cov.1 q hq hl k) g'
        · have : tt a p q = - tt a q p := by unfold tt; grind
          omega
        · exact gone_high hab k (hp q hq) (h.over b _ rfl q hq k) g'⟩
      obtain ⟨k1, k2, k3⟩ := popped hp h2
      exact ⟨k1, k2.trans (List.getLast?_cons_cons).symm, k3⟩
    · have e : popw gone p (b :: a :: r) = b :: a :: r := by
        show (if gone a b p then popw gone p (a :: r) else b :: a :: r) = _
        rw [if_neg g]
      rw [if_neg g, e]
      refine ⟨h, rfl, fun b' a' r' eq => ?_⟩
      cases eq
      have : ¬ tt a b p ≤ 0 := fun z => g (decide_eq_true z)
      omega
theorem cov_more {L : List P} {p : P} : ∀ {st : List P}, (∀ x ∈ st, x ∈ L) → (∀ q ∈ L, lt q p) → Cov L st → Cov (L ++ [p]) st
  | [], _, _, _ => trivial
  | [_], _, _, _ => trivial
  | b :: a :: r, m, hp, h => by
    refine ⟨fun q hq l1 l2 => ?_, cov_more (fun x hx => m x (List.mem_cons_of_mem _ hx)) hp h.2⟩
    rcases List.mem_append.mp hq with k | k
    · exact h.1 q k l1 l2
    · obtain rfl := List.mem_singleton.mp k
      exact (lt_asymm (hp b (m b List.mem_cons_self)) l2).elim
theorem low_step {L st : List P} {p : P} (hL : Asc (L ++ [p])) (hne : L ≠ []) (h : Low L st) : Low (L ++ [p]) (step gone st p) := by
  have hp : ∀ q ∈ L, lt q p := fun q hq => (List.pairwise_append.mp hL).2.2 q hq p List.mem_cons_self
  have sne : st ≠ [] := by
    rintro rfl
    have := h.top
    rw [List.head?_nil] at this
    exact hne (List.getLast?_eq_none_iff.mp this.symm)
  have top : ∀ b r, st = b :: r → L.getLast? = some b := fun b r e => by rw [← h.top, e]; rfl
  have pre : Pre L st p := ⟨sne, h.mem, h.desc, h.cvx, h.cov, fun b r e q hq hl => by
    have hb := top b r e
    -- b is the last of L
    obtain ⟨l, rfl⟩ : ∃ l, L = l ++ [b] := by
      obtain ⟨l, e⟩ := List.getLast?_eq_some_iff.mp hb
      exact ⟨l, e⟩
    rcases List.mem_append.mp hq with k | k
    · have := (List.pairwise_append.mp (List.pairwise_append.mp hL).1).2.2 q k b List.mem_cons_self
      exact (lt_asymm this hl).elim
    · obtain rfl := List.mem_singleton.mp k
      exact (lt_irrefl hl).elim⟩
  obtain ⟨k1, k2, k3⟩ := popped hp pre
  unfold step
  generalize popw gone p st = s2 at k1 k2 k3
  cases s2 with
  | nil => exact (k1.ne rfl).elim
  | cons b r =>
    have mp : ∀ x ∈ b :: r, x ∈ L ++ [p] := fun x hx => List.mem_append_left _ (k1.mem x hx)
    refine ⟨fun x hx => ?_, ?_, ?_, ?_, ?_, ?_⟩
    · rcases List.mem_cons.mp hx with rfl | k
      · exact List.mem_append_right _ List.mem_cons_self
      · exact mp x k
    · simp
    · rw [List.getLast?_cons_cons, k2, h.bot]
      cases L with
      | nil => exact (hne rfl).elim
      | cons => rfl
    · exact List.pairwise_cons.mpr ⟨fun x hx => hp x (k1.mem x hx), k1.desc⟩
    · cases r with
      | nil => trivial
      | cons a r => exact ⟨k3 b a r rfl, k1.cvx⟩
    · refine ⟨fun q hq l1 l2 => ?_, cov_more k1.mem hp k1.cov⟩
      rcases List.mem_append.mp hq with k | k
      · exact k1.over b r rfl q k l1
      · obtain rfl := List.mem_singleton.mp k
        exact (lt_irrefl l2).elim
theorem low_run : ∀ (l L : List P) (st : List P), Asc (L ++ l) → L ≠ [] → Low L st → Low (L ++ l) (l.foldl (step gone) st)
  | [], L, st, _, _, h => by rw [List.append_nil]; exact h
  | p :: l, L, st, a, hne, h => by
    have a' : Asc ((L ++ [p]) ++ l) := by simpa using a
    have := low_run l (L ++ [p]) (step gone st p) a' (by simp) (low_step (List.pairwise_append.mp a').1 hne h)
    simpa using this
theorem low_stack {L : List P} (h : Asc L) : Low L (stack gone L) := by
  cases L with
  | nil => exact ⟨fun p hp => hp, rfl, rfl, List.Pairwise.nil, trivial, trivial⟩
  | cons p l =>
    have b : Low [p] [p] := ⟨fun x hx => hx, rfl, rfl, List.pairwise_singleton .., trivial, trivial⟩
    exact low_run l [p] [p] h (by simp) b
end Hull

namespace Hull
/-! ### the whole hull -/
def ng (p : P) : P := (-p.1, -p.2)
theorem ng_ng (p : P) : ng (ng p) = p := by unfold ng; simp
theorem lt_ng {a b : P} : lt (ng a) (ng b) ↔ lt b a := by unfold lt ng; simp only; omega
theorem tt_ng (a b c : P) : tt (ng a) (ng b) (ng c) = tt a b c := by unfold tt ng; grind
theorem gone_ng (a b c : P) : gone (ng a) (ng b) (ng c) = gone a b c := by unfold gone; rw [tt_ng]
/-- the points seen upside down -/
def down (L : List P) : List P := (L.map ng).reverse
theorem mem_down {L : List P} {p : P} : p ∈ down L ↔ ng p ∈ L := by
  unfold down
  rw [List.mem_reverse, List.mem_map]
  constructor
  · rintro ⟨a, h, rfl⟩; rw [ng_ng]; exact h
  · intro h; exact ⟨_, h, ng_ng p⟩
theorem asc_down {L : List P} (h : Asc L) : Asc (down L) := by
  show List.Pairwise lt (L.map ng).reverse
  rw [List.pairwise_reverse, List.pairwise_map]
  exact h.imp fun k => lt_ng.mpr k
theorem drop_end (a z : P) (l : List P) : (a :: (l ++ [z])).dropLast = a :: l := by
  rw [← List.cons_append, List.dropLast_concat]
theorem asc_nodup {l : List P} (h : Asc l) : l.Nodup := List.Pairwise.imp (R := lt) (S := fun a b => a ≠ b) (fun {a b} k e => by subst e; exact lt_irrefl k) h
theorem rev_nodup {l : List P} (h : l.Nodup) : l.reverse.Nodup := List.pairwise_reverse.mpr (List.Pairwise.imp (R := fun a b => a ≠ b) (S := fun a b => b ≠ a) (fun {a b} k => Ne.symm k) h)
theorem desc_nodup {l : List P} (h : Desc l) : l.Nodup := List.Pairwise.imp (R := fun b a => lt a b) (S := fun a b => a ≠ b) (fun {a b} k e => by subst e; exact lt_irrefl k) h
theorem bends_up (L : List P) : bends gone L.reverse = (bends gone (down L)).map ng := by
  have e : L.reverse = (down L).map ng := by
    unfold down
    rw [← List.map_reverse, List.map_reverse, ← List.map_reverse, List.map_map]
    have : ng ∘ ng = id := by funext p; exact ng_ng p
    rw [this, List.map_id]
  rw [e, bends_map gone_ng]
/-- both chains -/
theorem hull_mem {L : List P} (h2 : ¬ L.length < 2) (ha : Asc L) {p : P} : p ∈ hull gone L ↔ p ∈ stack gone L ∨ ng p ∈ stack gone (down L) := by
  have lo := low_stack ha
  have up := low_stack (asc_down ha)
  have bl : bends gone L = (stack gone L).reverse := rfl
  unfold hull
  rw [if_neg h2, bends_up]
  have bu : bends gone (down L) = (stack gone (down L)).reverse := rfl
  rw [bl, bu]
  -- both chains have two points or more
  obtain ⟨x, z, M, rfl⟩ : ∃ x z M, L = x :: (M ++ [z]) := by
    match L, h2 with
    | [], h => exact (h (by simp)).elim
    | [_], h => exact (h (by simp)).elim
    | a :: b :: r, _ => exact ⟨a, (b :: r).getLast (by simp), (b :: r).dropLast, by rw [List.dropLast_concat_getLast]⟩
  have hxz : lt x z := (List.pairwise_cons.mp ha).1 z (by simp)
  have lt1 : (stack gone (x :: (M ++ [z]))).head? = some z := by rw [lo.top]; exact List.getLast?_eq_some_iff.mpr ⟨x :: M, by simp⟩
  have lb1 : (stack gone (x :: (M ++ [z]))).getLast? = some x := lo.bot
  have ed : down (x :: (M ++ [z])) = ng z :: ((M.map ng).reverse ++ [ng x]) := by unfold down; simp
  have ut : (stack gone (down (x :: (M ++ [z])))).head? = some (ng x) := by rw [up.top, ed]; exact List.getLast?_eq_some_iff.mpr ⟨ng z :: (M.map ng).reverse, by simp⟩
  have ub : (stack gone (down (x :: (M ++ [z])))).getLast? = some (ng z) := by rw [up.bot, ed]; rfl
  generalize stack gone (x :: (M ++ [z])) = s1 at lt1 lb1
  generalize stack gone (down (x :: (M ++ [z]))) = s2 at ut ub
  have two : ∀ {s : List P} {u v : P}, s.head? = some u → s.getLast? = some v → u ≠ v → ∃ m, s = u :: (m ++ [v]) := by
    intro s u v h k hne
    match s, h with
    | a :: r, h =>
      obtain rfl : a = u := Option.some.inj h
      cases r with
      | nil => exact (hne (Option.some.inj k)).elim
      | cons b r =>
        rw [List.getLast?_cons_cons] at k
        obtain ⟨l, e⟩ := List.getLast?_eq_some_iff.mp k
        exact ⟨l, by rw [e]⟩
  have xz : x ≠ z := fun e => lt_irrefl (e ▸ hxz)
  obtain ⟨m1, rfl⟩ := two lt1 lb1 (Ne.symm xz)
  obtain ⟨m2, rfl⟩ := two ut ub (fun e => xz (by rw [← ng_ng x, ← ng_ng z, e]))
  have e1 : (z :: (m1 ++ [x])).reverse.dropLast = x :: m1.reverse := by simp [drop_end]
  have e2 : ((ng x :: (m2 ++ [ng z])).reverse.map ng).dropLast = z :: (m2.map ng).reverse := by simp [ng_ng, drop_end]
  rw [e1, e2]
  have nm : ∀ {l : List P} {p : P}, p ∈ l.map ng ↔ ng p ∈ l := fun {l p} => by
    rw [List.mem_map]
    constructor
    · rintro ⟨a, h, rfl⟩; rw [ng_ng]; exact h
    · intro h; exact ⟨_, h, ng_ng p⟩
  have xi : ∀ {p y : P}, ng p = ng y ↔ p = y := fun {p y} => ⟨fun e => by rw [← ng_ng p, ← ng_ng y, e], fun e => by rw [e]⟩
  simp only [List.mem_append, List.mem_cons, List.mem_reverse, nm, List.not_mem_nil, or_false, xi]
  constructor
  · rintro ((h | h) | (h | h))
    · exact Or.inl (Or.inr (Or.inr h))
    · exact Or.inl (Or.inr (Or.inl h))
    · exact Or.inl (Or.inl h)
    · exact Or.inr (Or.inr (Or.inl h))
  · rintro ((h | (h | h)) | (h | (h | h)))
    · exact Or.inr (Or.inl h)
    · exact Or.inl (Or.inr h)
    · exact Or.inl (Or.inl h)
    · exact Or.inl (Or.inl h)
    · exact Or.inr (Or.inr h)
    · exact Or.inr (Or.inl h)
theorem hull_sub {L : List P} (ha : Asc L) {p : P} (h : p ∈ hull gone L) : p ∈ L := by
  by_cases h2 : L.length < 2
  · unfold hull at h
    rw [if_pos h2] at h
    exact h
  · rcases (hull_mem h2 ha).mp h with k | k
    · exact (low_stack ha).mem p k
    · have := mem_down.mp ((low_stack (asc_down ha)).mem _ k)
      rwa [ng_ng] at this
theorem asc_ext : ∀ {A B : List P}, Asc A → Asc B → (∀ p, p ∈ A ↔ p ∈ B) → A = B
  | [], [], _, _, _ => rfl
  | [], b :: _, _, _, h => absurd ((h b).mpr List.mem_cons_self) (by simp)
  | a :: _, [], _, _, h => absurd ((h a).mp List.mem_cons_self) (by simp)
  | a :: A, b :: B, ha, hb, h => by
    have a1 := List.pairwise_cons.mp ha
    have b1 := List.pairwise_cons.mp hb
    have ab : a = b := by
      rcases List.mem_cons.mp ((h a).mp List.mem_cons_self) with e | e
      · exact e
      · rcases List.mem_cons.mp ((h b).mpr List.mem_cons_self) with e2 | e2
        · exact e2.symm
        · exact (lt_asymm (b1.1 a e) (a1.1 b e2)).elim
    subst ab
    rw [asc_ext a1.2 b1.2 fun p => ?_]
    have := h p
    constructor
    · intro k
      rcases List.mem_cons.mp (this.mp (List.mem_cons_of_mem _ k)) with rfl | q
      · exact (lt_irrefl (a1.1 _ k)).elim
      · exact q
    · intro k
      rcases List.mem_cons.mp (this.mpr (List.mem_cons_of_mem _ k)) with rfl | q
      · exact (lt_irrefl (b1.1 _ k)).elim
      · exact q
theorem asc_head {A : List P} {x : P} (ha : Asc A) (hx : x ∈ A) (hm : ∀ p ∈ A, x = p ∨ lt x p) : A.head? = some x := by
  cases A with
  | nil => cases hx
  | cons a r =>
    rcases List.mem_cons.mp hx with rfl | k
    · rfl
    · have l := (List.pairwise_cons.mp ha).1 x k
      rcases hm a List.mem_cons_self with rfl | e
      · rfl
      · exact (lt_asymm l e).elim
theorem asc_last {A : List P} {x : P} (ha : Asc A) (hx : x ∈ A) (hm : ∀ p ∈ A, p = x ∨ lt p x) : A.getLast? = some x := by
  rcases List.eq_nil_or_concat A with rfl | ⟨l, a, rfl⟩
  · cases hx
  · rw [List.concat_eq_append] at ha hx hm ⊢
    have a1 := List.pairwise_append.mp ha
    rw [List.getLast?_concat]
    rcases List.mem_append.mp hx with k | k
    · have l := a1.2.2 x k a List.mem_cons_self
      rcases hm a (by simp) with rfl | e
      · rfl
      · exact (lt_asymm l e).elim
    · rw [List.mem_singleton.mp k]
theorem low_of_sub {L M st : List P} (hL : Asc L) (hM : Asc M) (sub : ∀ p ∈ M, p ∈ L) (h : Low L st) (hs : ∀ p ∈ st, p ∈ M) : Low M st := by
  have cov : ∀ {s : List P}, Cov L s → Cov M s := by
    intro s
    induction s with
    | nil => exact fun _ => trivial
    | cons b r ih =>
      cases r with
      | nil => exact fun _ => trivial
      | cons a r => exact fun c => ⟨fun q hq => c.1 q (sub q hq), ih c.2⟩
  refine ⟨hs, ?_, ?_, h.desc, h.cvx, cov h.cov⟩
  · rw [h.top]
    cases e : L.getLast? with
    | none =>
      have : M = [] := by
        rw [List.getLast?_eq_none_iff] at e
        subst e
        exact List.eq_nil_iff_forall_not_mem.mpr fun p hp => by cases sub p hp
      rw [this]; rfl
    | some z =>
      have hz : z ∈ st := by
        have := h.top.trans e
        exact List.mem_of_mem_head? (by rw [this]; rfl)
      refine (asc_last hM (hs z hz) fun p hp => ?_).symm
      obtain ⟨l, rfl⟩ := List.getLast?_eq_some_iff.mp e
      rcases List.mem_append.mp (sub p hp) with k | k
      · exact Or.inr ((List.pairwise_append.mp hL).2.2 p k z List.mem_cons_self)
      · exact Or.inl (List.mem_singleton.mp k)
  · rw [h.bot]
    cases L with
    | nil =>
      have : M = [] := List.eq_nil_iff_forall_not_mem.mpr fun p hp => by cases sub p hp
      rw [this]
    | cons z l =>
      have hz : z ∈ st := List.mem_of_getLast? h.bot
      refine (asc_head hM (hs z hz) fun p hp => ?_).symm
      rcases List.mem_cons.mp (sub p hp) with k | k
      · exact Or.inl k.symm
      · exact Or.inr ((List.pairwise_cons.mp hL).1 p k)
theorem hull_two {L : List P} (ha : Asc L) : (hull gone L).length < 2 ↔ L.length < 2 := by
  by_cases h2 : L.length < 2
  · unfold hull
    rw [if_pos h2]
  · refine ⟨fun h => ?_, fun h => (h2 h).elim⟩
    have lo := low_stack ha
    match L, h2 with
    | [], h => exact (h (by simp)).elim
    | [_], h => exact (h (by simp)).elim
    | a :: b :: r, h2 =>
      exfalso
      have ma : a ∈ hull gone (a :: b :: r) := (hull_mem h2 ha).mpr (Or.inl (List.mem_of_getLast? lo.bot))
      obtain ⟨z, hz⟩ : ∃ z, (a :: b :: r).getLast? = some z := ⟨_, List.getLast?_eq_some_getLast (by simp)⟩
      have mz : z ∈ hull gone (a :: b :: r) := (hull_mem h2 ha).mpr (Or.inl (List.mem_of_mem_head? (by rw [lo.top, hz]; rfl)))
      have az : lt a z := by
        have : z ∈ b :: r := by
          rw [List.getLast?_cons_cons] at hz
          exact List.mem_of_getLast? hz
        exact (List.pairwise_cons.mp ha).1 z this
      match hull gone (a :: b :: r), h, ma, mz with
      | [], _, m, _ => cases m
      | [x], _, m1, m2 =>
        rw [List.mem_singleton] at m1 m2
        subst m1 m2
        exact lt_irrefl az
      | _ :: _ :: _, h, _, _ => exact absurd h (by simp)
/-- the hull of the corners -/
theorem hull_hull {L M : List P} (hL : Asc L) (hM : Asc M) (h : ∀ p, p ∈ M ↔ p ∈ hull gone L) : hull gone M = hull gone L := by
  by_cases h2 : L.length < 2
  · have e : hull gone L = L := by unfold hull; rw [if_pos h2]
    rw [e] at h ⊢
    rw [asc_ext hM hL h, e]
  · have lo := low_stack hL
    have up := low_stack (asc_down hL)
    have sub : ∀ p ∈ M, p ∈ L := fun p hp => hull_sub hL ((h p).mp hp)
    have l1 : stack gone M = stack gone L := (low_stack hM).uniq (low_of_sub hL hM sub lo fun p hp => (h p).mpr ((hull_mem h2 hL).mpr (Or.inl hp)))
    have l2 : stack gone (down M) = stack gone (down L) := (low_stack (asc_down hM)).uniq (low_of_sub (asc_down hL) (asc_down hM) (fun p hp => mem_down.mpr (sub _ (mem_down.mp hp))) up fun p hp => mem_down.mpr ((h _).mpr ((hull_mem h2 hL).mpr (Or.inr (by rw [ng_ng]; exact hp)))))
    have hm2 : ¬ M.length < 2 := by
      intro q
      have hn : (hull gone L).length < 2 := by
        match M, q with
        | [], _ =>
          have : hull gone L = [] := List.eq_nil_iff_forall_not_mem.mpr fun p hp => by cases (h p).mpr hp
          rw [this]; decide
        | [x], _ =>
          -- all members are x; the chain has its both ends
          exfalso
          match L, h2 with
          | [], k => exact k (by simp)
          | [_], k => exact k (by simp)
          | a :: b :: r, h2 =>
            have ma := (h a).mpr ((hull_mem h2 hL).mpr (Or.inl (List.mem_of_getLast? lo.bot)))
            obtain ⟨z, hz⟩ : ∃ z, (a :: b :: r).getLast? = some z := ⟨_, List.getLast?_eq_some_getLast (by simp)⟩
            have mz := (h z).mpr ((hull_mem h2 hL).mpr (Or.inl (List.mem_of_mem_head? (by rw [lo.top, hz]; rfl))))
            rw [List.mem_singleton] at ma mz
            have az : lt a z := by
              have : z ∈ b :: r := by
                rw [List.getLast?_cons_cons] at hz
                exact List.mem_of_getLast? hz
              exact (List.pairwise_cons.mp hL).1 z this
            rw [ma, mz] at az
            exact lt_irrefl az
        | _ :: _ :: _, k => exact absurd k (by simp)
      exact h2 ((hull_two hL).mp hn)
    unfold hull
    rw [if_neg hm2, if_neg h2, bends_up, bends_up]
    unfold bends
    rw [l1, l2]
/-! ### least and greatest heights are at corners -/
def ht (c s : Int) (p : P) : Int := c * p.1 + s * p.2
theorem low_ht {c s : Int} (hs : 0 ≤ s) {a q b : P} (h1 : lt a q) (h2 : lt q b) (t : 0 ≤ tt a b q) : ht c s a ≤ ht c s q ∨ ht c s b ≤ ht c s q := by
  by_cases g : ht c s a ≤ ht c s q
  · exact Or.inl g
  · by_cases g2 : ht c s b ≤ ht c s q
    · exact Or.inr g2
    · exfalso
      have u1 := up_of h1
      have u2 := up_of h2
      have ea : ht c s (mi q a) = ht c s q - ht c s a := by unfold ht mi; grind
      have eb : ht c s (mi b q) = ht c s b - ht c s q := by unfold ht mi; grind
      have ec : cr (mi q a) (mi b q) = - tt a b q := by unfold cr mi tt; grind
      generalize mi q a = u at u1 ea ec
      generalize mi b q = v at u2 eb ec
      have id : ht c s v * u.1 = ht c s u * v.1 + s * cr u v := by unfold ht cr; grind
      have a1 : ht c s u * v.1 ≤ 0 := Int.mul_nonpos_of_nonpos_of_nonneg (by omega) (up_x u2)
      have a2 : s * cr u v ≤ 0 := Int.mul_nonpos_of_nonneg_of_nonpos hs (by omega)
      have a3 : 0 ≤ ht c s v * u.1 := Int.mul_nonneg (by omega) (up_x u1)
      have z1 : u.1 = 0 := by
        by_cases g : u.1 = 0
        · exact g
        · have := Int.mul_pos (show 0 < ht c s v by omega) (show 0 < u.1 by have := up_x u1; omega)
          omega
      have uy : 0 < u.2 := by rcases u1 with q | ⟨_, q⟩; omega; exact q
      have : ht c s u = s * u.2 := by unfold ht; rw [z1]; grind
      have := Int.mul_nonneg hs (Int.le_of_lt uy)
      omega
theorem low_min {c s : Int} (hs : 0 ≤ s) {L : List P} {q z : P} (hq : q ∈ L) : ∀ {r : List P} {t : P}, Desc (t :: r) → Cov L (t :: r) → (t :: r).getLast? = some z → (z = q ∨ lt z q) → (q = t ∨ lt q t) → ∃ d ∈ t :: r, ht c s d ≤ ht c s q
  | [], t, d, co, hl, hz, ht => by
    obtain rfl : t = z := Option.some.inj hl
    refine ⟨t, by simp, ?_⟩
    rcases hz with rfl | hz
    · exact Int.le_refl _
    · rcases ht with rfl | k
      · exact Int.le_refl _
      · exact (lt_asymm hz k).elim
  | a :: r, t, d, co, hl, hz, hk => by
    rw [List.getLast?_cons_cons] at hl
    rcases hk with rfl | hk
    · exact ⟨q, by simp, Int.le_refl _⟩
    · rcases lt_tri a q with h | rfl | h
      · rcases low_ht (c := c) hs h hk (co.1 q hq h hk) with g | g
        · exact ⟨a, by simp, g⟩
        · exact ⟨t, by simp, g⟩
      · exact ⟨a, by simp, Int.le_refl _⟩
      · obtain ⟨e, m, k⟩ := low_min (c := c) hs hq (List.pairwise_cons.mp d).2 co.2 hl hz (Or.inr h)
        exact ⟨e, List.mem_cons_of_mem _ m, k⟩
theorem Low.min {c s : Int} (hs : 0 ≤ s) {L st : List P} (ha : Asc L) (h : Low L st) {q : P} (hq : q ∈ L) : ∃ d ∈ st, ht c s d ≤ ht c s q := by
  cases L with
  | nil => cases hq
  | cons z l =>
    cases st with
    | nil => exact absurd h.bot (by simp)
    | cons t r =>
      refine low_min hs hq h.desc h.cov h.bot ?_ ?_
      · rcases List.mem_cons.mp hq with k | k
        · exact Or.inl k.symm
        · exact Or.inr ((List.pairwise_cons.mp ha).1 q k)
      · obtain ⟨l', e⟩ := List.getLast?_eq_some_iff.mp (show (z :: l).getLast? = some t from h.top.symm)
        rw [e] at hq ha
        rcases List.mem_append.mp hq with k | k
        · exact Or.inr ((List.pairwise_append.mp ha).2.2 q k t List.mem_cons_self)
        · exact Or.inl (List.mem_singleton.mp k)
theorem hull_min (c s : Int) {L : List P} (ha : Asc L) {q : P} (hq : q ∈ L) : ∃ d ∈ hull gone L, ht c s d ≤ ht c s q := by
  by_cases h2 : L.length < 2
  · refine ⟨q, ?_, Int.le_refl _⟩
    unfold hull
    rw [if_pos h2]
    exact hq
  · by_cases hs : 0 ≤ s
    · obtain ⟨d, m, k⟩ := (low_stack ha).min (c := c) hs ha hq
      exact ⟨d, (hull_mem h2 ha).mpr (Or.inl m), k⟩
    · obtain ⟨d, m, k⟩ := (low_stack (asc_down ha)).min (c := -c) (s := -s) (by omega) (asc_down ha) (q := ng q) (mem_down.mpr (by rw [ng_ng]; exact hq))
      refine ⟨ng d, (hull_mem h2 ha).mpr (Or.inr (by rw [ng_ng]; exact m)), ?_⟩
      have e1 : ht (-c) (-s) d = ht c s (ng d) := by unfold ht ng; grind
      have e2 : ht (-c) (-s) (ng q) = ht c s q := by unfold ht ng; grind
      omega
/-! ### how many corners -/
theorem chain_in {z t : P} : ∀ {r : List P}, Desc (t :: r) → Cvx (t :: r) → (t :: r).getLast? = some z → ∀ p ∈ r, p ≠ z → tt z t p < 0
  | [], _, _, _, p, hp, _ => by cases hp
  | b :: r, d, cv, hl, p, hp, hne => by
    rw [List.getLast?_cons_cons] at hl
    have d2 := (List.pairwise_cons.mp d).2
    have hbt : lt b t := (List.pairwise_cons.mp d).1 b List.mem_cons_self
    -- z < p <= b < t
    have key : ∀ {r : List P} {b : P}, Desc (b :: r) → Cvx (b :: r) → (b :: r).getLast? = some z → ∀ {t : P}, lt b t → (∀ a r', r = a :: r' → 0 < tt a b t) → z ≠ b → 0 < tt z b t := by
      intro r
      induction r with
      | nil => intro b _ _ hl t _ _ hne; exact (hne (Option.some.inj hl).symm).elim
      | cons a r ih =>
        intro b d cv hl t hbt hv hne
        rw [List.getLast?_cons_cons] at hl
        have hab : lt a b := (List.pairwise_cons.mp d).1 a List.mem_cons_self
        by_cases e : z = a
        · rw [e]; exact hv a r rfl
        · have hz : lt z a := by
            rcases last_le (List.pairwise_cons.mp d).2 hl with k | k
            · exact (e k).elim
            · exact k
          exact bend_on hz hab hbt (ih (List.pairwise_cons.mp d).2 cv.tail hl hab (fun c r' er => by subst er; exact cv.1) e) (hv a r rfl)
    have flip : ∀ x y w : P, tt x w y = - tt x y w := fun x y w => by unfold tt; grind
    rcases List.mem_cons.mp
          hp with rfl | hp
    · have := key d2 cv.tail hl hbt (fun a r' e => by subst e; exact cv.1) (Ne.symm hne)
      rw [flip]
      omega
    · -- p further down: below z b, and so below z t
      have ih := chain_in d2 cv.tail hl p hp hne
      have hpb : lt p b := (List.pairwise_cons.mp d2).1 p hp
      have hzp : lt z p := by
        have : ∀ {r : List P} {b : P}, Desc (b :: r) → (b :: r).getLast? = some z → ∀ p ∈ b :: r, p = z ∨ lt z p := by
          intro r
          induction r with
          | nil => intro b _ hl p hp; rw [List.mem_singleton.mp hp]; exact Or.inl (Option.some.inj hl)
          | cons a r ih =>
            intro b d hl p hp
            have h0 := last_le d hl
            rw [List.getLast?_cons_cons] at hl
            rcases List.mem_cons.mp
                  hp with rfl | hp
            · rcases h0 with e | e
              · exact Or.inl e.symm
              · exact Or.inr e
            · exact ih (List.pairwise_cons.mp d).2 hl p hp
        rcases this d2 hl p (List.mem_cons_of_mem _ hp) with e | e
        · exact (hne e).elim
        · exact e
      have zb : z ≠ b := fun e => lt_asymm hzp (e ▸ hpb)
      have k := key d2 cv.tail hl hbt (fun a r' e => by subst e; exact cv.1) zb
      -- z < p < b < t, tt z b p < 0, 0 < tt z b t
      have h1 : 0 < tt z p b := by rw [flip]; omega
      by_cases g : tt z t p < 0
      · exact g
      · have g2 : tt z p t ≤ 0 := by rw [flip]; omega
        -- z p t to the right, z b t to the left: p above z t, b below; but p is below z b
        exfalso
        have e1 : cr (mi p z) (mi b z) = tt z p b := by unfold cr mi tt; grind
        have e2 : cr (mi b z) (mi t z) = tt z b t := by unfold cr mi tt; grind
        have e3 : cr (mi p z) (mi t z) = tt z p t := by unfold cr mi tt; grind
        have := cr_pos (up_of hzp) (up_of (lt_trans hzp hpb)) (up_of (lt_trans hzp (lt_trans hpb hbt))) (by omega : 0 < cr (mi p z) (mi b z)) (by omega : 0 < cr (mi b z) (mi t z))
        omega
theorem nodup_len {A B : List P} (hA : A.Nodup) (h : ∀ p ∈ A, p ∈ B) : A.length ≤ B.length := by
  induction A generalizing B with
  | nil => exact Nat.zero_le _
  | cons a A ih =>
    have ha := h a List.mem_cons_self
    have hn := List.nodup_cons.mp hA
    have := ih (B := B.erase a) hn.2 fun p hp => (List.mem_erase_of_ne (fun (e : p = a) => hn.1 (by rw [← e]; exact hp))).mpr (h p (List.mem_cons_of_mem _ hp))
    rw [List.length_erase_of_mem ha] at this
    have : 0 < B.length := List.length_pos_of_mem ha
    simp only [List.length_cons]
    omega
theorem hull_nodup {L : List P} (ha : Asc L) : (hull gone L).Nodup := by
  by_cases h2 : L.length < 2
  · unfold hull
    rw [if_pos h2]
    exact asc_nodup ha
  · have lo := low_stack ha
    have up := low_stack (asc_down ha)
    obtain ⟨x, z, M, rfl⟩ : ∃ x z M, L = x :: (M ++ [z]) := by
      match L, h2 with
      | [], h => exact (h (by simp)).elim
      | [_], h => exact (h (by simp)).elim
      | a :: b :: r, _ => exact ⟨a, (b :: r).getLast (by simp), (b :: r).dropLast, by rw [List.dropLast_concat_getLast]⟩
    have hxz : lt x z := (List.pairwise_cons.mp ha).1 z (by simp)
    have xz : x ≠ z := fun e => lt_irrefl (e ▸ hxz)
    have lt1 : (stack gone (x :: (M ++ [z]))).head? = some z := by rw [lo.top]; exact List.getLast?_eq_some_iff.mpr ⟨x :: M, by simp⟩
    have lb1 : (stack gone (x :: (M ++ [z]))).getLast? = some x := lo.bot
    have ed : down (x :: (M ++ [z])) = ng z :: ((M.map ng).reverse ++ [ng x]) := by unfold down; simp
    have ut : (stack gone (down (x :: (M ++ [z])))).head? = some (ng x) := by rw [up.top, ed]; exact List.getLast?_eq_some_iff.mpr ⟨ng z :: (M.map ng).reverse, by simp⟩
    have ub : (stack gone (down (x :: (M ++ [z])))).getLast? = some (ng z) := by rw [up.bot, ed]; rfl
    unfold hull
    rw [if_neg h2, bends_up]
    show (((stack gone (x :: (M ++ [z]))).reverse).dropLast ++ (((stack gone (down (x :: (M ++ [z])))).reverse).map ng).dropLast).Nodup
    have dl := lo.desc
    have du := up.desc
    have cl := lo.cvx
    have cu := up.cvx
    generalize stack gone (x :: (M ++ [z])) = s1 at lt1 lb1 dl cl
    generalize stack gone (down (x :: (M ++ [z]))) = s2 at ut ub du cu
    have two : ∀ {s : List P} {u v : P}, s.head? = some u → s.getLast? = some v → u ≠ v → ∃ m, s = u :: (m ++ [v]) := by
      intro s u v h k hne
      match s, h with
      | a :: r, h =>
        obtain rfl : a = u := Option.some.inj h
        cases r with
        | nil => exact (hne (Option.some.inj k)).elim
        | cons b r =>
          rw [List.getLast?_cons_cons] at k
          obtain ⟨l, e⟩ := List.getLast?_eq_some_iff.mp k
          exact ⟨l, by rw [e]⟩
    obtain ⟨m1, rfl⟩ := two lt1 lb1 (Ne.symm xz)
    obtain ⟨m2, rfl⟩ := two ut ub (fun e => xz (by rw [← ng_ng x, ← ng_ng z, e]))
    have e1 : (z :: (m1 ++ [x])).reverse.dropLast = x :: m1.reverse := by simp [drop_end]
    have e2 : ((ng x :: (m2 ++ [ng z])).reverse.map ng).dropLast = z :: (m2.map ng).reverse := by simp [ng_ng, drop_end]
    rw [e1, e2]
    have xi : ∀ {p y : P}, ng p = ng y → p = y := fun {p y} e => by rw [← ng_ng p, ← ng_ng y, e]
    have nd1 : (z :: (m1 ++ [x])).Nodup := desc_nodup dl
    have nd2 : (ng x :: (m2 ++ [ng z])).Nodup := desc_nodup du
    have n1 : (x :: m1.reverse).Nodup := by
      have := (List.nodup_cons.mp nd1).2
      have := rev_nodup this
      simpa using this
    have n2 : (z :: (m2.map ng).reverse).Nodup := by
      have := (List.nodup_cons.mp nd2).2
      have h3 := rev_nodup this
      have h4 : ((m2 ++ [ng z]).reverse.map ng).Nodup := by
        refine List.pairwise_map.mpr (h3.imp fun {a b} k e => k (xi e))
      simpa [ng_ng] using h4
    have lowin := chain_in dl cl lb1
    have upin := chain_in du cu ub
    have mi1 : ∀ p ∈ m1, tt x z p < 0 := fun p hp => lowin p (by simp [hp]) (by rintro rfl; have := (List.nodup_cons.mp nd1).2; exact (List.nodup_append.mp this).2.2 _ hp _ (by simp) rfl)
    have mi2 : ∀ p ∈ m2, tt (ng z) (ng x) p < 0 := fun p hp => upin p (by simp [hp]) (by rintro rfl; have := (List.nodup_cons.mp nd2).2; exact (List.nodup_append.mp this).2.2 _ hp _ (by simp) rfl)
    refine List.nodup_append.mpr ⟨n1, n2, ?_⟩
    intro p hp q hq e
    subst e
    have zero : tt x z x = 0 := by unfold tt; grind
    have zero2 : tt x z z = 0 := by unfold tt; grind
    have hq' : p = z ∨ 0 < tt x z p := by
      rcases List.mem_cons.mp hq with k | k
      · exact Or.inl k
      · right
        rw [List.mem_reverse, List.mem_map] at k
        obtain ⟨a, ha', rfl⟩ := k
        have := mi2 a ha'
        have e : tt (ng z) (ng x) a = - tt x z (ng a) := by unfold tt ng; grind
        omega
    have hp' : p = x ∨ tt x z p < 0 := by
      rcases List.mem_cons.mp hp with k | k
      · exact Or.inl k
      · exact Or.inr (mi1 p (List.mem_reverse.mp k))
    rcases hp' with rfl | h1
    · rcases hq' with h | h
      · exact xz h
      · omega
    · rcases hq' with rfl | h
      · omega
      · omega
theorem hull_len {L : List P} (ha : Asc L) : (hull gone L).length ≤ L.length := nodup_len (hull_nodup ha) fun p hp => hull_sub ha hp
end Hull

namespace Hull
/-! ### the points in their order, each once -/
def ins (p : P) : List P → List P
  | [] => [p]
  | a :: r => if lt p a then p :: a :: r else if p = a then a :: r else a :: ins p r
theorem ins_mem {p q : P} : ∀ {l : List P}, q ∈ ins p l ↔ q = p ∨ q ∈ l
  | [] => by simp [ins]
  | a :: r => by
    unfold ins
    split
    · simp
    · split
      · rename_i e
        subst e
        simp
      · simp only [List.mem_cons, ins_mem (l := r)]
        constructor
        · rintro (h | h | h)
          · exact Or.inr (Or.inl h)
          · exact Or.inl h
          · exact Or.inr (Or.inr h)
        · rintro (h | h | h)
          · exact Or.inr (Or.inl h)
          · exact Or.inl h
          · exact Or.inr (Or.inr h)
theorem ins_asc {p : P} : ∀ {l : List P}, Asc l → Asc (ins p l)
  | [], _ => List.pairwise_singleton ..
  | a :: r, h => by
    have h1 := List.pairwise_cons.mp h
    unfold ins
    split
    · rename_i c
      exact List.pairwise_cons.mpr ⟨fun x hx => by
        rcases List.mem_cons.mp hx with rfl | k
        · exact c
        · exact lt_trans c (h1.1 x k), h⟩
    · split
      · exact h
      · rename_i c e
        refine List.pairwise_cons.mpr ⟨fun x hx => ?_, ins_asc h1.2⟩
        rcases ins_mem.mp hx with rfl | k
        · rcases lt_tri a x with k | k | k
          · exact k
          · exact (e k.symm).elim
          · exact (c k).elim
        · exact h1.1 x k
def ascOf : List P → List P
  | [] => []
  | p :: l => ins p (ascOf l)
theorem ascOf_mem {q : P} : ∀ {l : List P}, q ∈ ascOf l ↔ q ∈ l
  | [] => Iff.rfl
  | p :: l => by
    show q ∈ ins p (ascOf l) ↔ _
    rw [ins_mem, ascOf_mem, List.mem_cons]
theorem ascOf_asc : ∀ (l : List P), Asc (ascOf l)
  | [] => List.Pairwise.nil
  | p :: l => ins_asc (ascOf_asc l)
theorem ascOf_eq {A l : List P} (h : Asc A) (m : ∀ p, p ∈ A ↔ p ∈ l) : ascOf l = A := asc_ext (ascOf_asc l) h fun p => ascOf_mem.trans (m p).symm
theorem ascOf_len : ∀ (l : List P), (ascOf l).length ≤ l.length := fun l => nodup_len (asc_nodup (ascOf_asc l)) fun p hp => ascOf_mem.mp hp
/-- what is left of a row in order if neighbours that are alike are told once -/
def once : Option P → List P → List P
  | _, [] => []
  | o, a :: r => if o = some a then once (some a) r else a :: once (some a) r
theorem once_asc : ∀ {l : List P} {o : Option P}, l.Pairwise (fun x y => ¬ lt y x) → (∀ p, o = some p → ∀ x ∈ l, ¬ lt x p) → Asc (once o l) ∧ (∀ p, o = some p → ∀ x ∈ once o l, lt p x) ∧ ∀ q, (q ∈ once o l ∨ o = some q) ↔ (q ∈ l ∨ o = some q)
  | [], o, _, _ => ⟨List.Pairwise.nil, fun _ _ _ h => (by cases h), fun q => Iff.rfl⟩
  | a :: r, o, h, ho => by
    have h1 := List.pairwise_cons.mp h
    obtain ⟨i1, i2, i3⟩ := once_asc (l := r) (o := some a) h1.2 (fun p e x hx => by cases e; exact h1.1 x hx)
    unfold once
    split
    · rename_i e
      refine ⟨i1, fun p hp => by rw [e] at hp; cases hp; exact i2 a rfl, fun q => ?_⟩
      have := i3 q
      rw [e]
      simp only [List.mem_cons] at this ⊢
      constructor
      · intro k
        rcases this.mp k with k | k
        · exact Or.inl (Or.inr k)
        · exact Or.inr k
      · rintro ((k | k) | k)
        · exact Or.inr (by rw [k])
        · exact this.mpr (Or.inl k)
        · exact Or.inr k
    · rename_i e
      refine ⟨List.pairwise_cons.mpr ⟨fun x hx => i2 a rfl x hx, i1⟩, fun p hp x hx => ?_, fun q => ?_⟩
      · have pa : lt p a := by
          rcases lt_tri p a with k | k | k
          · exact k
          · exact (e (by rw [hp, k])).elim
          · exact (ho p hp a List.mem_cons_self k).elim
        rcases List.mem_cons.mp hx with rfl | k
        · exact pa
        · exact lt_trans pa (i2 a rfl x k)
      · have := i3 q
        simp only [List.mem_cons] at this ⊢
        constructor
        · rintro ((k | k) | k)
          · exact Or.inl (Or.inl k)
          · rcases this.mp (Or.inl k) with k | k
            · exact Or.inl (Or.inr k)
            · cases k; exact Or.inl (Or.inl rfl)
          · exact Or.inr k
        · rintro ((k | k) | k)
          · exact Or.inl (Or.inl k)
          · rcases this.mpr (Or.inl k) with k | k
            · exact Or.inl (Or.inr k)
            · cases k; exact Or.inl (Or.inl rfl)
          · exact Or.inr k
theorem once_is {l : List P} (h : l.Pairwise (fun x y => ¬ lt y x)) : once none l = ascOf l := by
  obtain ⟨i1, _, i3⟩ := once_asc (o := none) h (fun p e => nomatch e)
  refine (ascOf_eq i1 fun p => ?_).symm
  have := i3 p
  simpa using this
/-! ### points times a number above 0 -/
def sc (k : Int) (p : P) : P := (k * p.1, k * p.2)
theorem sc_lt {k : Int} (hk : 0 < k) {a b : P} : lt (sc k a) (sc k b) ↔ lt a b := by
  unfold lt sc
  simp only
  have h1 : ∀ x y : Int, k * x < k * y ↔ x < y := fun x y => Int.mul_lt_mul_left hk
  have h2 : ∀ x y : Int, k * x = k * y ↔ x = y := fun x y => ⟨fun e => Int.eq_of_mul_eq_mul_left (by omega) e, fun e => by rw [e]⟩
  rw [h1, h1, h2]
theorem sc_gone {k : Int} (hk : 0 < k) (a b c : P) : gone (sc k a) (sc k b) (sc k c) = gone a b c := by
  unfold gone
  have e : tt (sc k a) (sc k b) (sc k c) = k * k * tt a b c := by unfold tt sc; grind
  rw [e]
  have kk : 0 < k * k := Int.mul_pos hk hk
  refine decide_eq_decide.mpr ⟨fun h => ?_, fun h => Int.mul_nonpos_of_nonneg_of_nonpos (Int.le_of_lt kk) h⟩
  by_cases g : tt a b c ≤ 0
  · exact g
  · have := Int.mul_pos kk (show 0 < tt a b c by omega)
    omega
theorem sc_inj {k : Int} (hk : 0 < k) {a b : P} (h : sc k a = sc k b) : a = b := by
  unfold sc at h
  have h1 := congrArg Prod.fst h
  have h2 := congrArg Prod.snd h
  simp only at h1 h2
  exact Prod.ext (Int.eq_of_mul_eq_mul_left (by omega) h1) (Int.eq_of_mul_eq_mul_left (by omega) h2)
theorem sc_asc {k : Int} (hk : 0 < k) {l : List P} (h : Asc l) : Asc (l.map (sc k)) := by
  show List.Pairwise lt (l.map (sc k))
  rw [List.pairwise_map]
  exact List.Pairwise.imp (R := lt) (fun q => (sc_lt hk).mpr q) h
theorem sc_ascOf {k : Int} (hk : 0 < k) (l : List P) : ascOf (l.map (sc k)) = (ascOf l).map (sc k) := by
  refine ascOf_eq (sc_asc hk (ascOf_asc l)) fun p => ?_
  rw [List.mem_map, List.mem_map]
  constructor
  · rintro ⟨a, h, e⟩; exact ⟨a, ascOf_mem.mp h, e⟩
  · rintro ⟨a, h, e⟩; exact ⟨a, ascOf_mem.mpr h, e⟩
theorem sc_hull {k : Int} (hk : 0 < k) (l : List P) : hull gone (ascOf (l.map (sc k))) = (hull gone (ascOf l)).map (sc k) := by
  rw [sc_ascOf hk, hull_map (sc_gone hk)]
/-- the hull of points, in whatever order -/
def hl (l : List P) : List P := hull gone (ascOf l)
theorem hl_hl (l : List P) : hl (hl l) = hl l := hull_hull (ascOf_asc l) (ascOf_asc _) fun p => ascOf_mem
theorem hl_len (l : List P) : (hl l).length ≤ l.length := Nat.le_trans (hull_len (ascOf_asc l)) (ascOf_len l)
theorem hl_sub {l : List P} {p : P} (h : p ∈ hl l) : p ∈ l := ascOf_mem.mp (hull_sub (ascOf_asc l) h)
theorem hl_min (c s : Int) {l : List P} {q : P} (h : q ∈ l) : ∃ d ∈ hl l, ht c s d ≤ ht c s q := hull_min c s (ascOf_asc l) (ascOf_mem.mpr h)
/-! ### the corners go round -/
/-- from the first corner all others go counterclockwise -/
theorem low_fan {z t : P} : ∀ {r : List P}, Desc (t :: r) → Cvx (t :: r) → (t :: r).getLast? = some z → ∀ (A B : List P) (b a : P), t :: r = A ++ b :: a :: B → z ≠ a → 0 < tt z a b := by
  intro r d cv hl A B b a e hne
  have d' : Desc (b :: a :: B) := by rw [e] at d; exact (List.pairwise_append.mp d).2.1
  have hl' : (a :: B).getLast? = some z := by
    rw [e, List.getLast?_append] at hl
    rw [List.getLast?_cons_cons] at hl
    cases h : (a :: B).getLast? with
    | none => rw [List.getLast?_eq_none_iff] at h; cases h
    | some y => rw [h] at hl; exact hl
  have cv' : Cvx (b :: a :: B) := by
    have : ∀ {A X : List P}, Cvx (A ++ X) → Cvx X := by
      intro A
      induction A with
      | nil => exact fun h => h
      | cons x A ih => exact fun h => ih h.tail
    rw [e] at cv
    exact this cv
  have hab : lt a b := (List.pairwise_cons.mp d').1 a List.mem_cons_self
  -- z < a < b
  cases B with
  | nil => exact (hne (Option.some.inj hl').symm).elim
  | cons a' B =>
    have ha' : lt a' a := (List.pairwise_cons.mp (List.pairwise_cons.mp d').2).1 a' List.mem_cons_self
    by_cases h : z = a'
    · rw [h]; exact cv'.1
    · have := chain_in (List.pairwise_cons.mp d').2 cv'.tail hl' a' List.mem_cons_self (fun q => h q.symm)
      have k : 0 < tt z a' a := by
        have : tt z a a' = - tt z a' a := by unfold tt; grind
        omega
      have hz : lt z a' := by
        rw [List.getLast?_cons_cons] at hl'
        rcases last_le (List.pairwise_cons.mp (List.pairwise_cons.mp d').2).2 hl' with q | q
        · exact (h q).elim
        · exact q
      exact bend_on hz ha' hab k cv'.1
/-- seen from the last point of the lower chain -/
theorem low_fan2 {t : P} : ∀ {r : List P}, Desc (t :: r) → Cvx (t :: r) → ∀ (A B : List P) (b a : P), r = A ++ b :: a :: B → 0 < tt a b t
  | [], _, _, A, B, b, a, e => by
    have := congrArg List.length e
    simp at this
  | c :: r, d, cv, A, B, b, a, e => by
    cases A with
    | nil =>
      cases e
      exact cv.1
    | cons x A =>
      have e1 : c = x := (List.cons.inj e).1
      have e2 : r = A ++ b :: a :: B := (List.cons.inj e).2
      subst e1
      have d2 := (List.pairwise_cons.mp d).2
      have k := low_fan2 d2 cv.tail A B b a e2
      have hct : lt c t := (List.pairwise_cons.mp d).1 c List.mem_cons_self
      have hb : b ∈ r := by rw [e2]; simp
      have ha : a ∈ r := by rw [e2]; simp
      have hbc : lt b c := (List.pairwise_cons.mp d2).1 b hb
      have hac : lt a c := (List.pairwise_cons.mp d2).1 a ha
      have hab : lt a b := by
        have := (List.pairwise_cons.mp d2).2
        rw [e2] at this
        exact (List.pairwise_cons.mp (List.pairwise_append.mp this).2.1).1 a List.mem_cons_self
      -- b c t bends, a b c bends
      have kb : 0 < tt b c t := by
        -- c's neighbour below is at or above b
        cases r with
        | nil => cases hb
        | cons y r =>
          rcases List.mem_cons.mp hb with rfl | hb2
          · exact cv.1
          · have hy : lt b y := (List.pairwise_cons.mp (List.pairwise_cons.mp d2).2).1 b hb2
            have hyc : lt y c := (List.pairwise_cons.mp d2).1 y List.mem_cons_self
            have := key2 d2 cv.tail b hb2
            exact bend_on hy hyc hct this cv.1
      have u1 := up_of hab
      have u2 := up_of hbc
      have u3 := up_of hct
      have e1' : cr (mi b a) (mi c b) = tt a b c := by unfold cr mi tt; grind
      have e2' : cr (mi c b) (mi t c) = tt b c t := by unfold cr mi tt; grind
      have e3 : tt a b t = tt a b c + cr (mi b a) (mi t c) := by unfold cr mi tt; grind
      have := cr_pos u1 u2 u3 (by omega) (by omega)
      omega
where
  /-- all below the second bend to the right of it -/
  key2 {c y : P} {r : List P} (d : Desc (c :: y :: r)) (cv : Cvx (c :: y :: r)) : ∀ p ∈ r, 0 < tt p y c := by
    intro p hp
    have hyc : lt y c := (List.pairwise_cons.mp d).1 y List.mem_cons_self
    have d2 := (List.pairwise_cons.mp d).2
    induction r generalizing c y with
    | nil => cases hp
    | cons x r ih =>
      rcases List.mem_cons.mp hp with rfl | h
      · exact cv.1
      · have hxy : lt x y := (List.pairwise_cons.mp d2).1 x List.mem_cons_self
        have := ih d2 cv.tail h hxy (List.pairwise_cons.mp d2).2
        have hpx : lt p x := (List.pairwise_cons.mp (List.pairwise_cons.mp d2).2).1 p h
        exact bend_on hpx hxy hyc this cv.1
end Hull

namespace Hull
theorem hull_form {L : List P} (h2 : ¬ L.length < 2) (ha : Asc L) : ∃ (x z : P) (m1 m2 : List P), stack gone L = z :: (m1 ++ [x]) ∧ stack gone (down L) = ng x :: (m2 ++ [ng z]) ∧ hull gone L = (x :: m1.reverse) ++ (z :: (m2.map ng).reverse) ∧ lt x z := by
  have lo := low_stack ha
  have up := low_stack (asc_down ha)
  have bl : bends gone L = (stack gone L).reverse := rfl
  have hh : hull gone L = (stack gone L).reverse.dropLast ++ (((stack gone (down L)).reverse).map ng).dropLast := by
    unfold hull
    rw [if_neg h2, bends_up]
    rfl
  rw [hh]
  obtain ⟨x, z, M, rfl⟩ : ∃ x z M, L = x :: (M ++ [z]) := by
    match L, h2 with
    | [], h => exact (h (by simp)).elim
    | [_], h => exact (h (by simp)).elim
    | a :: b :: r, _ => exact ⟨a, (b :: r).getLast (by simp), (b :: r).dropLast, by rw [List.dropLast_concat_getLast]⟩
  have hxz : lt x z := (List.pairwise_cons.mp ha).1 z (by simp)
  have lt1 : (stack gone (x :: (M ++ [z]))).head? = some z := by rw [lo.top]; exact List.getLast?_eq_some_iff.mpr ⟨x :: M, by simp⟩
  have lb1 : (stack gone (x :: (M ++ [z]))).getLast? = some x := lo.bot
  have ed : down (x :: (M ++ [z])) = ng z :: ((M.map ng).reverse ++ [ng x]) := by unfold down; simp
  have ut : (stack gone (down (x :: (M ++ [z])))).head? = some (ng x) := by rw [up.top, ed]; exact List.getLast?_eq_some_iff.mpr ⟨ng z :: (M.map ng).reverse, by simp⟩
  have ub : (stack gone (down (x :: (M ++ [z])))).getLast? = some (ng z) := by rw [up.bot, ed]; rfl
  generalize stack gone (x :: (M ++ [z])) = s1 at lt1 lb1
  generalize stack gone (down (x :: (M ++ [z]))) = s2 at ut ub
  have two : ∀ {s : List P} {u v : P}, s.head? = some u → s.getLast? = some v → u ≠ v → ∃ m, s = u :: (m ++ [v]) := by
    intro s u v h k hne
    match s, h with
    | a :: r, h =>
      obtain rfl : a = u := Option.some.inj h
      cases r with
      | nil => exact (hne (Option.some.inj k)).elim
      | cons b r =>
        rw [List.getLast?_cons_cons] at k
        obtain ⟨l, e⟩ := List.getLast?_eq_some_iff.mp k
        exact ⟨l, by rw [e]⟩
  have xz : x ≠ z := fun e => by subst e; exact lt_irrefl hxz
  obtain ⟨m1, rfl⟩ := two lt1 lb1 (Ne.symm xz)
  obtain ⟨m2, rfl⟩ := two ut ub (fun e => xz (by rw [← ng_ng x, ← ng_ng z, e]))
  have e1 : (z :: (m1 ++ [x])).reverse.dropLast = x :: m1.reverse := by simp [drop_end]
  have e2 : ((ng x :: (m2 ++ [ng z])).reverse.map ng).dropLast = z :: (m2.map ng).reverse := by simp [ng_ng, drop_end]
  exact ⟨x, z, m1, m2, rfl, rfl, by rw [e1, e2], hxz⟩
/-- two neighbours in a joined row -/
theorem split_join {α : Type} : ∀ {X Y A B : List α} {a b : α}, X ++ Y = A ++ a :: b :: B → (∃ B', X = A ++ a :: b :: B') ∨ (∃ Y', X = A ++ [a] ∧ Y = b :: Y') ∨ ∃ A', Y = A' ++ a :: b :: B
  | [], Y, A, B, a, b, e => Or.inr (Or.inr ⟨A, e⟩)
  | x :: X, Y, A, B, a, b, e => by
    cases A with
    | nil =>
      have e1 := (List.cons.inj e).1
      have e2 := (List.cons.inj e).2
      cases X with
      | nil => exact Or.inr (Or.inl ⟨B, by rw [e1]; rfl, e2⟩)
      | cons y X =>
        have e3 := (List.cons.inj e2).1
        exact Or.inl ⟨X, by rw [e1, e3]; rfl⟩
    | cons y A =>
      have e1 := (List.cons.inj e).1
      have e2 := (List.cons.inj e).2
      rcases split_join e2 with ⟨B', h⟩ | ⟨Y', h, h'⟩ | h
      · exact Or.inl ⟨B', by rw [e1, h]; rfl⟩
      · exact Or.inr (Or.inl ⟨Y', by rw [e1, h]; rfl, h'⟩)
      · exact Or.inr (Or.inr h)
theorem turn3 (x y w : P) : tt x y w = tt y w x := by unfold tt; grind
theorem hl_fan {l : List P} {x : P} {rest : List P} (h : hl l = x :: rest) {A B : List P} {a b : P} (e : rest = A ++ a :: b :: B) : 0 < tt x a b := by
  have ha := ascOf_asc l
  unfold hl at h
  by_cases h2 : (ascOf l).length < 2
  · exfalso
    unfold hull at h
    rw [if_pos h2] at h
    rw [h, e] at h2
    simp at h2
    omega
  · obtain ⟨x', z, m1, m2, s1, s2, hf, hxz⟩ := hull_form h2 ha
    rw [hf] at h
    have e1 : x' = x := (List.cons.inj h).1
    have e2 : m1.reverse ++ (z :: (m2.map ng).reverse) = rest := (List.cons.inj h).2
    subst e1
    have lo := low_stack ha
    have up := low_stack (asc_down ha)
    rw [s1] at lo
    rw [s2] at up
    have lbot : (z :: (m1 ++ [x'])).getLast? = some x' := List.getLast?_eq_some_iff.mpr ⟨z :: m1, by simp⟩
    have low : ∀ {A B : List P} {b a : P}, z :: (m1 ++ [x']) = A ++ b :: a :: B → a ≠ x' → 0 < tt x' a b := fun e hne => low_fan lo.desc lo.cvx lbot _ _ _ _ e (Ne.symm hne)
    have nd : (z :: (m1 ++ [x'])).Nodup := desc_nodup lo.desc
    have xm : x' ∉ m1 := fun q => by
      have := (List.nodup_cons.mp nd).2
      exact (List.nodup_append.mp this).2.2 x' q x' (by simp) rfl
    rw [e] at e2
    rcases split_join e2 with ⟨B', q⟩ | ⟨Y', q, q'⟩ | ⟨A', q⟩
    · -- both of the lower chain
      have q1 : m1 = B'.reverse ++ b :: a :: A.reverse := by
        have := congrArg List.reverse q
        simpa using this
      refine low (A := z :: B'.reverse) (B := A.reverse ++ [x']) ?_ (fun k => xm (by rw [← k, q1]; simp))
      rw [q1]
      simp
    · -- the last of the lower chain and z
      have hb : b = z := (List.cons.inj q').1.symm
      subst hb
      have q1 : m1 = a :: A.reverse := by
        have := congrArg List.reverse q
        simpa using this
      refine low (A := []) (B := A.reverse ++ [x']) ?_ (fun k => xm (by rw [← k, q1]; simp))
      rw [q1]
      simp
    · -- the upper chain
      have q1 : m2 ++ [ng z] = (B.map ng).reverse ++ ng b :: ng a :: (A'.map ng).reverse := by
        have h1 : z :: (m2.map ng).reverse = ((m2 ++ [ng z]).map ng).reverse := by simp [ng_ng]
        rw [h1] at q
        have h3 := congrArg List.reverse q
        rw [List.reverse_reverse] at h3
        have h4 := congrArg (List.map ng) h3
        have nn : ng ∘ ng = id := by funext p; exact ng_ng p
        rw [List.map_map, nn, List.map_id] at h4
        rw [h4]
        simp
      have k := low_fan2 up.desc up.cvx _ _ _ _ q1
      have e5 : tt (ng a) (ng b) (ng x') = tt a b x' := tt_ng a b x'
      rw [turn3]
      omega
/-- a polygon has an area: its corners in threes -/
theorem hl_three {l : List P} (h : 3 ≤ (hl l).length) : ∃ x a b B, hl l = x :: a :: b :: B ∧ 0 < tt x a b := by
  match e : hl l, h with
  | x :: a :: b :: B, _ => exact ⟨x, a, b, B, rfl, hl_fan e (A := []) rfl⟩
end Hull

namespace Hull
/-! ### rows that go round to the left: each three in their order -/
def Tri : List P → Prop
  | [] => True
  | a :: r => (r.Pairwise fun b c => 0 < tt a b c) ∧ Tri r
theorem tri_snoc {a : P} : ∀ {r : List P}, Tri r → (r.Pairwise fun b c => 0 < tt b c a) → Tri (r ++ [a])
  | [], _, _ => ⟨List.Pairwise.nil, trivial⟩
  | d :: r, h, k => by
    obtain ⟨k1, k2⟩ := List.pairwise_cons.mp k
    refine ⟨?_, tri_snoc h.2 k2⟩
    refine List.pairwise_append.mpr ⟨h.1, List.pairwise_singleton _ _, fun b hb c hc => ?_⟩
    rw [List.mem_singleton.mp hc]
    exact k1 b hb
/-- begun at the next one -/
theorem Tri.turn {a : P} {r : List P} (h : Tri (a :: r)) : Tri (r ++ [a]) :=
  tri_snoc h.2 (h.1.imp fun {b c} k => by rw [← turn3]; exact k)
theorem tri_pos {a b c : P} : ∀ {l : List P}, Tri l → List.Sublist [a, b, c] l → 0 < tt a b c
  | [], _, s => by cases s
  | d :: r, h, s => by
    cases s with
    | cons _ s => exact tri_pos h.2 s
    | cons_cons _ s => exact List.pairwise_iff_forall_sublist.mp h.1 s
theorem tri_drop {m : List P} : ∀ {u : List P}, Tri (u ++ m) → Tri m
  | [], h => h
  | _ :: _, h => tri_drop h.2
theorem tri_map {f : P → P} (hf : ∀ a b c, tt (f a) (f b) (f c) = tt a b c) : ∀ {l : List P}, Tri l → Tri (l.map f)
  | [], _ => trivial
  | a :: r, h => by
    refine ⟨List.pairwise_map.mpr (h.1.imp fun {b c} k => ?_), tri_map hf h.2⟩
    rw [hf]
    exact k
/-- all lie to the left of an edge -/
theorem edge_left {B A : List P} {a b q : P} (h : Tri (B ++ a :: b :: A)) (hq : q ∈ B ++ a :: b :: A) : 0 ≤ tt a b q := by
  rcases List.mem_append.mp hq with k | k
  · have s : List.Sublist [q, a, b] (B ++ a :: b :: A) := (List.singleton_sublist.mpr k).append (List.Sublist.cons_cons a (List.Sublist.cons_cons b (List.nil_sublist A)))
    have := tri_pos h s
    rw [turn3] at this
    exact Int.le_of_lt this
  · rcases List.mem_cons.mp k with e | k
    · subst e
      unfold tt
      grind
    · rcases List.mem_cons.mp k with e | k
      · subst e
        unfold tt
        grind
      · have s : List.Sublist [a, b, q] (B ++ a :: b :: A) := (List.nil_sublist B).append (List.Sublist.cons_cons a (List.Sublist.cons_cons b (List.singleton_sublist.mpr k)))
        exact Int.le_of_lt (tri_pos h s)
theorem cvx_of : ∀ {s : List P}, (∀ A c b a B, s = A ++ c :: b :: a :: B → 0 < tt a b c) → Cvx s
  | [], _ => trivial
  | [_], _ => trivial
  | [_, _], _ => trivial
  | c :: b :: a :: r, h => ⟨h [] c b a r rfl, cvx_of fun A c' b' a' B e => h (c :: A) c' b' a' B (by rw [e]; rfl)⟩
theorem cov_of {L : List P} : ∀ {s : List P}, (∀ A b a B, s = A ++ b :: a :: B → ∀ q ∈ L, 0 ≤ tt a b q) → Cov L s
  | [], _ => trivial
  | [_], _ => trivial
  | b :: a :: r, h => ⟨fun q hq _ _ => h [] b a r rfl q hq, cov_of fun A b' a' B e => h (b :: A) b' a' B (by rw [e]; rfl)⟩
/-- an ascending stretch of such a row is the lower chain -/
theorem chain_low {M B C A L : List P} (hT : Tri M) (hM : M = B ++ (C ++ A)) (hL : ∀ q ∈ L, q ∈ M) (hC : ∀ q ∈ C, q ∈ L) (ha : Asc C) (h1 : L.head? = C.head?) (h2 : L.getLast? = C.getLast?) : Low L C.reverse := by
  have back : ∀ {X Y Z : List P}, C.reverse = X ++ (Y ++ Z) → M = (B ++ Z.reverse) ++ (Y.reverse ++ (X.reverse ++ A)) := fun {X Y Z} e => by
    have : C = Z.reverse ++ (Y.reverse ++ X.reverse) := by rw [← List.reverse_reverse C, e]; simp
    rw [hM, this]
    simp
  refine ⟨fun p hp => hC p (List.mem_reverse.mp hp), ?_, ?_, List.pairwise_reverse.mpr ha, cvx_of fun X c b a Z e => ?_, cov_of fun X b a Z e q hq => ?_⟩
  · rw [List.head?_reverse, h2]
  · rw [List.getLast?_reverse, h1]
  · have e2 := back (X := X) (Y := [c, b, a]) (Z := Z) e
    rw [e2] at hT
    refine tri_pos hT ((List.nil_sublist _).append ?_)
    show List.Sublist [a, b, c] ([a, b, c] ++ (X.reverse ++ A))
    exact List.sublist_append_left _ _
  · have e2 := back (X := X) (Y := [b, a]) (Z := Z) e
    have e3 : M = (B ++ Z.reverse) ++ a :: b :: (X.reverse ++ A) := e2
    have hm := hL q hq
    rw [e3] at hT hm
    exact edge_left hT hm
/-- no dip -/
theorem no_dip {x b c d : P} (h1 : lt x c) (h2 : lt c b) (h3 : lt c d) (t1 : 0 < tt b c d) (t2 : 0 < tt x c d) (t3 : 0 < tt x b c) : False := by
  have i1 : tt b c d * (c.1 - x.1) + tt x c d * (b.1 - c.1) + tt x b c * (d.1 - c.1) = 0 := by unfold tt; grind
  have i2 : tt b c d * (c.2 - x.2) + tt x c d * (b.2 - c.2) + tt x b c * (d.2 - c.2) = 0 := by unfold tt; grind
  generalize tt b c d = A at *
  generalize tt x c d = B at *
  generalize tt x b c = C at *
  have n1 : 0 ≤ c.1 - x.1 := by unfold lt at h1; omega
  have n2 : 0 ≤ b.1 - c.1 := by unfold lt at h2; omega
  have n3 : 0 ≤ d.1 - c.1 := by unfold lt at h3; omega
  have m1 := Int.mul_nonneg (Int.le_of_lt t1) n1
  have m2 := Int.mul_nonneg (Int.le_of_lt t2) n2
  have m3 := Int.mul_nonneg (Int.le_of_lt t3) n3
  have z1 : A * (c.1 - x.1) = 0 := by omega
  have z2 : B * (b.1 - c.1) = 0 := by omega
  have z3 : C * (d.1 - c.1) = 0 := by omega
  have y1 : c.1 - x.1 = 0 := (Int.mul_eq_zero.mp z1).resolve_left (by omega)
  have y2 : b.1 - c.1 = 0 := (Int.mul_eq_zero.mp z2).resolve_left (by omega)
  have y3 : d.1 - c.1 = 0 := (Int.mul_eq_zero.mp z3).resolve_left (by omega)
  have p1 : 0 < c.2 - x.2 := by unfold lt at h1; omega
  have p2 : 0 < b.2 - c.2 := by unfold lt at h2; omega
  have p3 : 0 < d.2 - c.2 := by unfold lt at h3; omega
  have w1 := Int.mul_pos t1 p1
  have w2 := Int.mul_pos t2 p2
  have w3 := Int.mul_pos t3 p3
  omega
/-- up, and then down -/
theorem up_down {x : P} : ∀ {r : List P}, r ≠ [] → (∀ p ∈ r, lt x p) → (r.Pairwise fun b c => 0 < tt x b c) → Tri r → ∃ U z D, r = U ++ z :: D ∧ Asc (U ++ [z]) ∧ Desc (z :: D)
  | [], h, _, _, _ => (h rfl).elim
  | [b], _, _, _, _ => ⟨[], b, [], rfl, List.pairwise_singleton _ _, List.pairwise_singleton _ _⟩
  | b :: c :: r, _, hx, hp, ht => by
    obtain ⟨p1, p2⟩ := List.pairwise_cons.mp hp
    obtain ⟨U, z, D, e, ha, hd⟩ := up_down (r := c :: r) (by simp) (fun p q => hx p (List.mem_cons_of_mem _ q)) p2 ht.2
    have hc : lt x c := hx c (by simp)
    have bc : 0 < tt x b c := p1 c List.mem_cons_self
    rcases lt_tri b c with k | k | k
    · refine ⟨b :: U, z, D, by rw [e]; rfl, ?_, hd⟩
      show Asc (b :: (U ++ [z]))
      refine List.pairwise_cons.mpr ⟨fun q hq => ?_, ha⟩
      cases U with
      | nil =>
        have : c = z := (List.cons.inj e).1
        rw [List.mem_singleton.mp hq, ← this]
        exact k
      | cons d U =>
        have ec : c = d := (List.cons.inj e).1
        rcases List.mem_cons.mp
              hq with rfl | hq
        · rw [← ec]; exact k
        · exact lt_trans (ec ▸ k) ((List.pairwise_cons.mp ha).1 q hq)
    · subst k
      have : tt x b b = 0 := by unfold tt; grind
      omega
    · cases U with
      | nil =>
        have ez : c = z := (List.cons.inj e).1
        have er : r = D := (List.cons.inj e).2
        subst ez er
        refine ⟨[], b, c :: r, rfl, List.pairwise_singleton _ _, List.pairwise_cons.mpr ⟨fun q hq => ?_, hd⟩⟩
        rcases List.mem_cons.mp
              hq with rfl | hq
        · exact k
        · exact lt_trans ((List.pairwise_cons.mp hd).1 q hq) k
      | cons d U =>
        exfalso
        have ec : c = d := (List.cons.inj e).1
        subst ec
        have er : r = U ++ z :: D := (List.cons.inj e).2
        obtain ⟨y, R, ey⟩ : ∃ y R, U ++ [z] = y :: R := by cases U with
          | nil => exact ⟨z, [], rfl⟩
          | cons a q => exact ⟨a, q ++ [z], rfl⟩
        have eR : r = y :: (R ++ D) := by
          have : r = (U ++ [z]) ++ D := by rw [er]; simp
          rw [this, ey]
          rfl
        have hcy : lt c y := (List.pairwise_cons.mp ha).1 y (by show y ∈ U ++ [z]; rw [ey]; exact List.mem_cons_self)
        have my : y ∈ r := by rw [eR]; exact List.mem_cons_self
        have t1 : 0 < tt b c y := (List.pairwise_cons.mp ht.1).1 y my
        have t2 : 0 < tt x c y := (List.pairwise_cons.mp p2).1 y my
        exact no_dip hc k hcy t1 t2 bc
/-- a row that goes round to the left from its least point on is its own hull -/
theorem hl_tri {x : P} {r : List P} (h2 : r ≠ []) (hT : Tri (x :: r)) (hx : ∀ p ∈ r, lt x p) : hl (x :: r) = x :: r := by
  obtain ⟨U, z, D, e, ha, hd⟩ := up_down h2 hx hT.1 hT.2
  have hxz : lt x z := hx z (by rw [e]; simp)
  have hL := ascOf_asc (x :: r)
  have hm : ∀ q, q ∈ ascOf (x :: r) ↔ q ∈ x :: r := fun q => ascOf_mem
  unfold hl
  generalize ascOf (x :: r) = L at hL hm
  have hmax : ∀ p ∈ L, p = z ∨ lt p z := fun p hp => by
    have := (hm p).mp hp
    rw [e] at this
    rcases List.mem_cons.mp this with rfl | k
    · exact Or.inr hxz
    · rcases List.mem_append.mp k with k | k
      · exact Or.inr ((List.pairwise_append.mp ha).2.2 p k z List.mem_cons_self)
      · rcases List.mem_cons.mp k with k | k
        · exact Or.inl k
        · exact Or.inr ((List.pairwise_cons.mp hd).1 p k)
  have hmin : ∀ p ∈ L, x = p ∨ lt x p := fun p hp => by
    rcases List.mem_cons.mp ((hm p).mp hp) with k | k
    · exact Or.inl k.symm
    · exact Or.inr (hx p k)
  have hd0 : L.head? = some x := asc_head hL ((hm x).mpr List.mem_cons_self) hmin
  have hl0 : L.getLast? = some z := asc_last hL ((hm z).mpr (by rw [e]; simp)) hmax
  -- the lower chain
  have lo : Low L (x :: (U ++ [z])).reverse := by
    refine chain_low (M := x :: r) (B := []) (A := D) hT (by rw [e]; simp) (fun q hq => (hm q).mp hq) (fun q hq => (hm q).mpr ?_) ?_ hd0 ?_
    · rw [e]
      rcases List.mem_cons.mp hq with rfl | k
      · simp
      · rcases List.mem_append.mp k with k | k
        · simp [k]
        · rw [List.mem_singleton.mp k]; simp
    · exact List.pairwise_cons.mpr ⟨fun q hq => hx q (by
        rw [e]
        rcases List.mem_append.mp hq with k | k
        · simp [k]
        · rw [List.mem_singleton.mp k]; simp), ha⟩
    · rw [hl0]
      exact (List.getLast?_eq_some_iff.mpr ⟨x :: U, by simp⟩).symm
  -- the upper one
  have hTn : Tri ((r ++ [x]).map ng) := tri_map tt_ng hT.turn
  have up : Low (down L) ((z :: (D ++ [x])).map ng).reverse := by
    refine chain_low (M := (r ++ [x]).map ng) (B := U.map ng) (A := []) hTn (by rw [e]; simp) (fun q hq => ?_) (fun q hq => ?_) ?_ ?_ ?_
    · have := (hm _).mp (mem_down.mp hq)
      refine List.mem_map.mpr ⟨ng q, ?_, ng_ng q⟩
      rcases List.mem_cons.mp this with k | k
      · rw [k]; simp
      · simp [k]
    · obtain ⟨p, hp, rfl⟩ := List.mem_map.mp hq
      refine mem_down.mpr ((hm _).mpr ?_)
      rw [ng_ng, e]
      rcases List.mem_cons.mp hp with rfl | k
      · simp
      · rcases List.mem_append.mp k with k | k
        · simp [k]
        · rw [List.mem_singleton.mp k]; simp
    · refine List.pairwise_map.mpr ?_
      have hd2 : (z :: (D ++ [x])).Pairwise fun b a => lt a b := by
        show ((z :: D) ++ [x]).Pairwise _
        refine List.pairwise_append.mpr ⟨hd, List.pairwise_singleton _ _, fun b hb c hc => ?_⟩
        rw [List.mem_singleton.mp hc]
        exact hx b (by rw [e]; exact List.mem_append_right _ hb)
      exact hd2.imp fun {b a} k => lt_ng.mpr k
    · show (down L).head? = _
      unfold down
      rw [List.head?_reverse, List.getLast?_map, hl0]
      rfl
    · unfold down
      rw [List.getLast?_reverse, List.head?_map, hd0]
      exact (List.getLast?_eq_some_iff.mpr ⟨(z :: D).map ng, by simp⟩).symm
  have e1 := (low_stack hL).uniq lo
  have e2 := (low_stack (asc_down hL)).uniq up
  have h2' : ¬ L.length < 2 := fun hlt => by
    have hne : x ≠ z := fun k => by subst k; exact lt_irrefl hxz
    match L, hd0, hl0, hlt with
    | [a], hd0, hl0, _ => exact hne ((Option.some.inj hd0).symm.trans (Option.some.inj hl0))
    | _ :: _ :: _, _, _, hlt => simp at hlt; omega
  unfold hull
  rw [if_neg h2', bends_up]
  unfold bends
  rw [e1, e2, List.reverse_reverse, List.reverse_reverse, List.map_map]
  have en : ng ∘ ng = id := by funext p; exact ng_ng p
  rw [en, List.map_id, drop_end, drop_end, e]
  rfl
/-- the hull asks only which points there are -/
theorem hl_same {l m : List P} (h : ∀ q, q ∈ l ↔ q ∈ m) : hl l = hl m := by
  unfold hl
  rw [ascOf_eq (ascOf_asc m) fun q => ascOf_mem.trans (h q).symm]
end Hull

namespace Hull
theorem pw_of {α : Type} {R : α → α → Prop} : ∀ {l : List α}, (∀ A a b B, l = A ++ a :: b :: B → R a b) → (∀ a ∈ l, ∀ b ∈ l, ∀ c ∈ l, R a b → R b c → R a c) → l.Pairwise R
  | [], _, _ =>
        List.Pairwise.nil
  | [_], _, _ => List.pairwise_singleton _ _
  | a :: b :: r, h, t => by
    have ih : (b :: r).Pairwise R := pw_of (fun A x y B e => h (a :: A) x y B (by rw [e]; rfl)) fun x hx y hy z hz => t x (List.mem_cons_of_mem _ hx) y (List.mem_cons_of_mem _ hy) z (List.mem_cons_of_mem _ hz)
    have ab := h [] a b r rfl
    refine List.pairwise_cons.mpr ⟨fun c hc => ?_, ih⟩
    rcases List.mem_cons.mp hc with rfl | k
    · exact ab
    · exact t a (by simp) b (by simp) c (by simp [k]) ab ((List.pairwise_cons.mp ih).1 c k)
theorem tt_to (b d c : P) : tt b d c = cr (mi c b) (mi c d) := by unfold tt cr mi; grind
/-- a bent chain: each three -/
theorem chain_tri : ∀ {s : List P}, Desc s → Cvx s → Tri s.reverse
  | [], _, _ => trivial
  | c :: s, hd, hc => by
    rw [List.reverse_cons]
    obtain ⟨d1, d2⟩ := List.pairwise_cons.mp hd
    refine tri_snoc (chain_tri d2 hc.tail) (pw_of (fun A a b B e => ?_) fun a ha b hb d hd' h1 h2 => ?_)
    · have e2 : s = B.reverse ++ b :: a :: A.reverse := by rw [← List.reverse_reverse s, e]; simp
      exact low_fan2 hd hc _ _ b a e2
    · rw [tt_to] at h1 h2 ⊢
      exact cr_pos (up_of (d1 a (List.mem_reverse.mp ha))) (up_of (d1 b (List.mem_reverse.mp hb))) (up_of (d1 d (List.mem_reverse.mp hd'))) h1 h2
/-- what lies over the line of both ends lies over each chord below it -/
theorem across {x z q a b : P} (h1 : lt x q) (h2 : lt q z) (h3 : lt a b) (t1 : 0 ≤ tt a b x) (t2 : 0 ≤ tt a b z) (t3 : 0 < tt x z q) : 0 < tt a b q := by
  have hxz := lt_trans h1 h2
  have i1 : (z.1 - x.1) * tt a b q = (z.1 - q.1) * tt a b x + (q.1 - x.1) * tt a b z + (b.1 - a.1) * tt x z q := by unfold tt; grind
  have i2 : (z.2 - x.2) * tt a b q = (z.2 - q.2) * tt a b x + (q.2 - x.2) * tt a b z + (b.2 - a.2) * tt x z q := by unfold tt; grind
  generalize tt a b q = T at *
  generalize tt a b x = A at *
  generalize tt a b z = B at *
  generalize tt x z q = C at *
  refine Classical.byContradiction
        fun hn => ?_
  have hT : T ≤ 0 := by omega
  have n1 : 0 ≤ z.1 - q.1 := by unfold lt at h2; omega
  have n2 : 0 ≤ q.1 - x.1 := by unfold lt at h1; omega
  have n3 : 0 ≤ b.1 - a.1 := by unfold lt at h3; omega
  have n4 : 0 ≤ z.1 - x.1 := by unfold lt at hxz; omega
  have m1 := Int.mul_nonneg n1 t1
  have m2 := Int.mul_nonneg n2 t2
  have m3 := Int.mul_nonneg n3 (Int.le_of_lt t3)
  have m4 := Int.mul_nonneg n4 (by omega : 0 ≤ -T)
  rw [Int.mul_neg] at m4
  have z3 : (b.1 - a.1) * C = 0 := by omega
  have y3 : b.1 - a.1 = 0 := (Int.mul_eq_zero.mp z3).resolve_right (by omega)
  have p3 : 0 < b.2 - a.2 := by unfold lt at h3; omega
  have w3 := Int.mul_pos p3 t3
  -- the second row: all of one first number, or nothing of it counts
  have z1 : (z.1 - q.1) * A = 0 := by omega
  have z2 : (q.1 - x.1) * B = 0 := by omega
  have z4 : (z.1 - x.1) * T = 0 := by omega
  by_cases e : z.1 = x.1
  · have q1 : q.1 = x.1 := by omega
    have p1 : 0 < z.2 - q.2 := by unfold lt at h2; omega
    have p2 : 0 < q.2 - x.2 := by unfold lt at h1; omega
    have p4 : 0 < z.2 - x.2 := by unfold lt at hxz; omega
    have w1 := Int.mul_nonneg (Int.le_of_lt p1) t1
    have w2 := Int.mul_nonneg (Int.le_of_lt p2) t2
    have w4 := Int.mul_nonneg (Int.le_of_lt p4) (by omega : 0 ≤ -T)
    rw [Int.mul_neg] at w4
    omega
  · have T0 : T = 0 := (Int.mul_eq_zero.mp z4).resolve_left (by omega)
    subst T0
    by_cases e1 : z.1 = q.1
    · have B0 : B = 0 := (Int.mul_eq_zero.mp z2).resolve_left (by omega)
      have p1 : 0 < z.2 - q.2 := by unfold lt at h2; omega
      have w1 := Int.mul_nonneg (Int.le_of_lt p1) t1
      subst B0
      rw [Int.mul_zero, Int.mul_zero] at i2
      omega
    · have A0 : A = 0 := (Int.mul_eq_zero.mp z1).resolve_left (by omega)
      subst A0
      by_cases e2 : q.1 = x.1
      · have p2 : 0 < q.2 - x.2 := by unfold lt at h1; omega
        have w2 := Int.mul_nonneg (Int.le_of_lt p2) t2
        rw [Int.mul_zero, Int.mul_zero] at i2
        omega
      · have B0 : B = 0 := (Int.mul_eq_zero.mp z2).resolve_left (by omega)
        subst B0
        rw [Int.mul_zero, Int.mul_zero, Int.mul_zero] at i2
        omega
theorem tri_join {B : List P} : ∀ {A : List P}, Tri A → Tri B → (A.Pairwise fun a b => ∀ c ∈ B, 0 < tt a b c) → (∀ a ∈ A, B.Pairwise fun b c => 0 < tt a b c) → Tri (A ++ B)
  | [], _, hB, _, _ => hB
  | a :: A, hA, hB, h1, h2 => by
    obtain ⟨k1, k2⟩ := List.pairwise_cons.mp h1
    exact ⟨List.pairwise_append.mpr ⟨hA.1, h2 a List.mem_cons_self, fun b hb c hc => k1 b hb c hc⟩, tri_join hA.2 hB k2 fun x hx => h2 x (List.mem_cons_of_mem _ hx)⟩
theorem tri_front {m : List P} : ∀ {u : List P}, Tri (u ++ m) → Tri u
  | [], _ => trivial
  | a :: u, h => ⟨(List.pairwise_append.mp h.1).1, tri_front h.2⟩
/-- a hull goes round to the left -/
theorem hull_tri {L : List P} (ha : Asc L) : Tri (hull gone L) := by
  by_cases h2 : L.length < 2
  · unfold hull
    rw [if_pos h2]
    match L, h2 with
    | [], _ => exact trivial
    | [a], _ => exact ⟨List.Pairwise.nil, trivial⟩
    | _ :: _ :: _, h => simp at h; omega
  · obtain ⟨x, z, m1, m2, e1, e2, e3, hxz⟩ := hull_form h2 ha
    have lo := low_stack ha
    have up := low_stack (asc_down ha)
    rw [e1] at lo
    rw [e2] at up
    rw [e3]
    have T1 : Tri (x :: (m1.reverse ++ [z])) := by
      have := chain_tri lo.desc lo.cvx
      rw [List.reverse_cons, List.reverse_append] at this
      exact this
    have T2 : Tri (z :: ((m2.map ng).reverse ++ [x])) := by
      have h := tri_map tt_ng (chain_tri up.desc up.cvx)
      have e : (ng x :: (m2 ++ [ng z])).reverse.map ng = z :: ((m2.map ng).reverse ++ [x]) := by simp [ng_ng, List.map_reverse]
      rw [e] at h
      exact h
    have d1 : Desc (z :: (m1 ++ [x])) := lo.desc
    have d2 : Desc (ng x :: (m2 ++ [ng z])) := up.desc
    have lowIn : ∀ a ∈ m1.reverse, lt x a ∧ lt a z ∧ tt x z a < 0 := fun a k => by
      have k := List.mem_reverse.mp k
      have o1 := (List.pairwise_cons.mp d1).1 a (List.mem_append_left _ k)
      have o2 := (List.pairwise_append.mp (List.pairwise_cons.mp d1).2).2.2 a k x (List.mem_singleton.mpr rfl)
      have c := chain_in (z := x) d1 lo.cvx (List.getLast?_eq_some_iff.mpr ⟨z :: m1, by simp⟩) a (List.mem_append_left _ k) (fun e => lt_irrefl (a := a) (by rw [← e] at o2; exact o2))
      exact ⟨o2, o1, c⟩
    have upIn : ∀ q ∈ (m2.map ng).reverse, lt x q ∧ lt q z ∧ 0 < tt x z q := fun q k => by
      obtain ⟨p, kp, rfl⟩ := List.mem_map.mp (List.mem_reverse.mp k)
      have o1 := (List.pairwise_cons.mp d2).1 p (List.mem_append_left _ kp)
      have o2 := (List.pairwise_append.mp (List.pairwise_cons.mp d2).2).2.2 p kp (ng z) (List.mem_singleton.mpr rfl)
      have c := chain_in (z := ng z) d2 up.cvx (List.getLast?_eq_some_iff.mpr ⟨ng x :: m2, by simp⟩) p (List.mem_append_left _ kp) (fun e => lt_irrefl (a := p) (by rw [← e] at o2; exact o2))
      refine ⟨lt_ng.mp (by rw [ng_ng]; exact o1), lt_ng.mp (by rw [ng_ng]; exact o2), ?_⟩
      rw [← ng_ng p, tt_ng] at c
      have : tt z x (ng p) = - tt x z (ng p) := by unfold tt; grind
      omega
    have hU : Asc (x :: m1.reverse) := by
      have : Asc (z :: (m1 ++ [x])).reverse := List.pairwise_reverse.mpr d1
      have e : (z :: (m1 ++ [x])).reverse = (x :: m1.reverse) ++ [z] := by simp
      rw [e] at this
      exact (List.pairwise_append.mp this).1
    have hD : Desc (z :: (m2.map ng).reverse) := by
      have : ((ng x :: (m2 ++ [ng z])).reverse.map ng).Pairwise fun b a => lt a b := List.pairwise_map.mpr (List.pairwise_reverse.mpr (d2.imp fun {b a} k => lt_ng.mpr k))
      have e : (ng x :: (m2 ++ [ng z])).reverse.map ng = (z :: (m2.map ng).reverse) ++ [x] := by simp [ng_ng, List.map_reverse]
      rw [e] at this
      exact (List.pairwise_append.mp this).1
    generalize (m2.map ng).reverse = D at *
    generalize m1.reverse = U at *
    have T1' : Tri ((x :: U) ++ [z]) := T1
    have T2' : Tri ((z :: D) ++ [x]) := T2
    -- chords of the lower chain
    have eL : ∀ {a b : P}, List.Sublist [a, b] (x :: U) → 0 ≤ tt a b x ∧ 0 < tt a b z := fun {a b} s => by
      have hz : 0 < tt a b z := tri_pos T1' (s.append (List.Sublist.refl [z]))
      refine ⟨?_, hz⟩
      cases s with
      | cons _ s =>
        have := tri_pos T1' ((List.Sublist.cons_cons x s).trans (List.sublist_append_left _ _))
        rw [turn3] at this
        exact Int.le_of_lt this
      | cons_cons _ s =>
        have : tt x b x = 0 := by unfold tt; grind
        omega
    have eU : ∀ {a b : P}, List.Sublist [a, b] (z :: D) → 0 ≤ tt a b z ∧ 0 < tt a b x := fun {a b} s => by
      have hz : 0 < tt a b x := tri_pos T2' (s.append (List.Sublist.refl [x]))
      refine ⟨?_, hz⟩
      cases s with
      | cons _ s =>
        have := tri_pos T2' ((List.Sublist.cons_cons z s).trans (List.sublist_append_left _ _))
        rw [turn3] at this
        exact Int.le_of_lt this
      | cons_cons _ s =>
        have : tt z b z = 0 := by unfold tt; grind
        omega
    refine tri_join (tri_front T1') (tri_front T2') (List.pairwise_iff_forall_sublist.mpr fun {a b} s c hc => ?_) fun a k => List.pairwise_iff_forall_sublist.mpr fun {b c} s => ?_
    · obtain ⟨s1, s2⟩ := eL s
      rcases List.mem_cons.mp
            hc with rfl | hc
      · exact s2
      · obtain ⟨o1, o2, o3⟩ := upIn c hc
        exact across o1 o2 (List.pairwise_iff_forall_sublist.mp hU s) s1 (Int.le_of_lt s2) o3
    · obtain ⟨s1, s2⟩ := eU s
      rw [turn3]
      rcases List.mem_cons.mp k with rfl | k
      · exact s2
      · obtain ⟨o1, o2, o3⟩ := lowIn a k
        rw [← tt_ng]
        refine across (x := ng z) (z := ng x) (lt_ng.mpr o2) (lt_ng.mpr o1) (lt_ng.mpr (List.pairwise_iff_forall_sublist.mp hD s)) (by rw [tt_ng]; exact s1) (by rw [tt_ng]; exact Int.le_of_lt s2) ?_
        rw [tt_ng]
        have : tt z x a = - tt x z a := by unfold tt; grind
        omega
theorem hl_is_tri (l : List P) : Tri (hl l) := hull_tri (ascOf_asc l)
end Hull

namespace Hull
/-! ### sums once round -/
def seg (f : P → P → Int) : List P → Int
  | a :: b :: r => f a b + seg f (b :: r)
  | _ => 0
def cyc (f : P → P → Int) (l : List P) : Int := match l with | [] => 0 | x :: r => seg f (x :: (r ++ [x]))
theorem seg_snoc (f : P → P → Int) (a b : P) : ∀ m : List P, seg f (m ++ [a, b]) = seg f (m ++ [a]) + f a b
  | [] => by show f a b + 0 = 0 + f a b; omega
  | [c] => by show f c a + (f a b + 0) = f c a + 0 + f a b; omega
  | c :: d :: m => by
    have := seg_snoc f a b (d :: m)
    show f c d + seg f (d :: (m ++ [a, b])) = f c d + seg f (d :: (m ++ [a])) + f a b
    have e1 : seg f (d :: (m ++ [a, b])) = seg f (d :: (m ++ [a])) + f a b := this
    omega
theorem cyc_turn (f : P → P → Int) (x : P) (r : List P) : cyc f (x :: r) = cyc f (r ++ [x]) := by
  cases r with
  | nil => rfl
  | cons y r =>
    show f x y + seg f (y :: (r ++ [x])) = seg f (y :: ((r ++ [x]) ++ [y]))
    have h := seg_snoc f x y (y :: r)
    have e1 : (y :: r) ++ [x, y] = y :: ((r ++ [x]) ++ [y]) := by simp
    have e2 : (y :: r) ++ [x] = y :: (r ++ [x]) := rfl
    rw [e1, e2] at h
    rw [h]
    omega
theorem cyc_rot (f : P → P → Int) : ∀ A B : List P, cyc f (A ++ B) = cyc f (B ++ A)
  | [], B => by rw [List.append_nil]; rfl
  | x :: A, B => by
    have h1 : cyc f ((x :: A) ++ B) = cyc f ((A ++ B) ++ [x]) := cyc_turn f x (A ++ B)
    have h2 := cyc_rot f A (B ++ [x])
    have e1 : (A ++ B) ++ [x] = A ++ (B ++ [x]) := by simp
    have e2 : (B ++ [x]) ++ A = B ++ x :: A := by simp
    rw [h1, e1, h2, e2]
/-- a fan of triangles makes up the sum once round -/
theorem fan_cyc {g : P → P → Int} (hg : ∀ a b, g a b = - g b a) (x : P) : ∀ r : List P, seg (fun b c => g x b + g b c + g c x) r = cyc g (x :: r)
  | [] => by
    show (0 : Int) = g x x + 0
    have := hg x x
    omega
  | [b] => by
    show (0 : Int) = g x b + (g b x + 0)
    have := hg x b
    omega
  | b :: c :: r => by
    have ih := fan_cyc hg x (c :: r)
    have e1 : cyc g (x :: c :: r) = g x c + seg g (c :: (r ++ [x])) := rfl
    have e2 : cyc g (x :: b :: c :: r) = g x b + (g b c + seg g (c :: (r ++ [x]))) := rfl
    have e3 : seg (fun b c => g x b + g b c + g c x) (b :: c :: r) = (g x b + g b c + g c x) + seg (fun b c => g x b + g b c + g c x) (c :: r) := rfl
    rw [e3, ih, e1, e2]
    have := hg x c
    omega
def gA (a b : P) : Int := cr a b
def gX (a b : P) : Int := (a.1 + b.1) * cr a b
def gY (a b : P) : Int := (a.2 + b.2) * cr a b
theorem gA_anti (a b : P) : gA a b = - gA b a := by unfold gA cr; grind
theorem gX_anti (a b : P) : gX a b = - gX b a := by unfold gX cr; grind
theorem gY_anti (a b : P) : gY a b = - gY b a := by unfold gY cr; grind
theorem gA_fan (x b c : P) : gA x b + gA b c + gA c x = tt x b c := by unfold gA cr tt; grind
theorem gX_fan (x b c : P) : gX x b + gX b c + gX c x = (x.1 + b.1 + c.1) * tt x b c := by unfold gX cr tt; grind
theorem gY_fan (x b c : P) : gY x b + gY b c + gY c x = (x.2 + b.2 + c.2) * tt x b c := by unfold gY cr tt; grind
/-! ### begun at the least point -/
theorem tri_rot : ∀ {A B : List P}, Tri (A ++ B) → Tri (B ++ A)
  | [], B, h => by rw [List.append_nil]; exact h
  | x :: A, B, h => by
    have h1 : Tri (A ++ (B ++ [x])) := by
      have := Tri.turn (a := x) (r := A ++ B) h
      rw [List.append_assoc]
            at this
      exact this
    have h2 := tri_rot h1
    have e2 : (B ++ [x]) ++ A = B ++ x :: A := by simp
    rw [e2] at h2
    exact h2
theorem least_of : ∀ {l : List P}, l ≠ [] → ∃ x ∈ l, ∀ p ∈ l, x = p ∨ lt x p
  | [], h => (h rfl).elim
  | [a], _ => ⟨a, by simp, fun p hp => Or.inl (List.mem_singleton.mp hp).symm⟩
  | a :: b :: r, _ => by
    obtain ⟨x, hx, h⟩ := least_of (l := b :: r) (by simp)
    rcases lt_tri a x with k | k | k
    · refine ⟨a, by simp, fun p hp => ?_⟩
      rcases List.mem_cons.mp
            hp with e | hp
      · exact Or.inl e.symm
      · rcases h p hp with e | l
        · exact Or.inr (e ▸ k)
        · exact Or.inr (lt_trans k l)
    · refine ⟨a, by simp, fun p hp => ?_⟩
      rcases List.mem_cons.mp
            hp with e | hp
      · exact Or.inl e.symm
      · rw [k]; exact h p hp
    · refine ⟨x, List.mem_cons_of_mem _ hx, fun p hp => ?_⟩
      rcases List.mem_cons.mp
            hp with e | hp
      · exact Or.inr (e ▸ k)
      · exact h p hp
/-- the hull of a row that goes round to the left is the row, begun at its least point -/
theorem hl_rot {l : List P} (hT : Tri l) (hn : l.Nodup) (h2 : 2 ≤ l.length) : ∃ A B, l = A ++ B ∧ hl l = B ++ A := by
  obtain ⟨x, hx, hm⟩ := least_of (l := l) (fun e => by rw [e] at h2; simp at h2)
  obtain ⟨A, B, e⟩ := List.append_of_mem hx
  subst e
  refine ⟨A, x :: B, rfl, ?_⟩
  have hT2 : Tri (x :: (B ++ A)) := by
    have := tri_rot hT
    exact this
  have hs : hl (A ++ x :: B) = hl (x :: (B ++ A)) := hl_same fun q => by simp only [List.mem_append, List.mem_cons]; exact ⟨fun h => by rcases h with h | h | h <;> simp [h], fun h => by rcases h with h | h | h <;> simp [h]⟩
  rw [hs]
  have hne : B ++ A ≠ [] := fun e => by
    have e1 := (List.append_eq_nil_iff.mp e)
    rw [e1.1, e1.2] at h2
    simp at h2
  refine hl_tri hne hT2 fun p hp => ?_
  have hp' : p ∈ A ++ x :: B := by
    rcases List.mem_append.mp
          hp with h | h
    · simp [h]
    · simp [h]
  rcases hm p hp' with e | k
  · exfalso
    subst e
    have hd := List.nodup_append.mp hn
    rcases List.mem_append.mp
          hp with h | h
    · exact (List.nodup_cons.mp hd.2.1).1 h
    · exact hd.2.2 x h x List.mem_cons_self rfl
  · exact k
theorem hl_nodup (l : List P) : (hl l).Nodup := hull_nodup (ascOf_asc l)
/-- what is alike once round is so of the hull begun anew -/
theorem hl_cyc (f : P → P → Int) {l : List P} (hT : Tri l) (hn : l.Nodup) (h2 : 2 ≤ l.length) : cyc f (hl l) = cyc f l := by
  obtain ⟨A, B, e1, e2⟩ := hl_rot hT hn h2
  rw [e2, e1, cyc_rot]
end Hull

namespace Ur
open PySem L2
/-- [x for x in l if test], l a list, no item passes -/
theorem lcLnone {K : PySem.W.Frag} {a : Addr} {xs : List V} {tl te : TE} {tt : TT} {vs : List Nat} {j : Nat} {σ : L2.St} {H : Hp} {Q : VK} (hx : ∀ R : VK, R (.ref a) H → tl σ H R) (hs : SqL K H a xs) (hz : xs.length ≤ 100000)
    (hw : ∀ x, wipe ((wipe σ vs).set j (some x)) vs = wipe σ vs)
    (ht : ∀ (x : V) (H3 : Hp), x ∈ xs → Same H H3 → ∀ Q' : Bool → Hp → Prop, (∀ H4, Same H3 H4 → Q' false H4) → tt ((wipe σ vs).set j (some x)) H3 Q')
    (hq : ∀ D H', H D = none → Same H H' → H' D = some (.lst []) → Q (.ref D) H') : tLc (iList K tl) (gName j) tt te vs σ H Q := by
  refine hx _ ⟨a, rfl, ⟨xs, hs⟩, fun D hD => ?_⟩
  refine lc_list (xs := xs) (fun _ H' => Same H H' ∧ H' D = some (.lst [])) ⟨same_new hD, upd_same⟩ (fun i H' _ m => m.1.seq hs) (fun i x H' hi m => ⟨hw x, ?_⟩) (fun H' m => hq D H' hD m.1 m.2)
  refine ht x H' (List.mem_of_getElem? hi) m.1 _ fun H4 s4 => ?_
  rw [if_neg
        Bool.false_ne_true]
  exact ⟨m.1.trans s4, s4 _ _ m.2⟩
end Ur

namespace Ur
open PySem L2
/-! ### calls by name, the names in the signature's order -/
def HasO (P : Program) (w : World) (K : PySem.W.Frag) (mg : Str → Option Value) (base : Heap) (x : Str) (ps : List Str) (k : Nat) (sp : Sp) : Prop :=
  ∃ f fd, FnOk P w K mg base CX0 k f fd ps sp ∧ mg x = some (.ref f) ∧ PySem.W.keepIn K (.ref f) = true ∧ ∀ (s : Shared) (ws : List Value), K.In s.heap → ws.length = ps.length → BindsTo s fd ⟨[], ps.zip ws⟩ (ps.zip ws)
theorem pe_hasO0 {X : Cx} {x : Str} {p pos : Pos} {tk : TA} {ps : List Str} {k : Nat} {sp : Sp} {kws : List Keyword} (h : HasO X.prog X.w X.K X.mg X.base x ps k sp) (hr : Room k X.A) (hg : Gl X x) (hkw : PK X kws tk)
    (hall : (backToKw pos (keywordEach kws X.env)).all (·.1.isSome) = true := by rfl) (hks : (backToKw pos (keywordEach kws X.env)).filterMap (·.1) = ps := by rfl) (hdb : (x == ("__debug__" : Str)) = false := by decide)
    (hpl : ((backTo pos (starEach [] X.env)).any (·.1) || (backToKw pos (keywordEach kws X.env)).any (·.1.isNone)) = false := by
      rfl) : PE X (.Call (.Name x p) [] kws pos) (tHasK sp tk) := by
  obtain ⟨f, fd, G, m, kp, b⟩ := h
  constructor
  intro pins s σ H Q I hq
  apply wpAny_Call_Name_kw
  apply ld_glob I hg m _ hdb
  apply PySem.W.callWith_KW0 (h₀ := X.base) I.ok.mod.kin kp hall _ hpl
  refine thn (hkw.run pos pins s σ H _ I hq) ?_
  rintro ws s2 ⟨zs, H2, I2, rz, q2⟩
  refine ⟨I2.kIn, ?_⟩
  rw [hks]
  have hl : ws.length = ps.length := by
    rw [← rz.length]
    exact G.len _ _ _ _ q2
  apply wpAny_call
  refine codeAny_mono (G.run X.A X.stack s2 H2 ⟨[], ps.zip ws⟩ ws zs Q E0 hr I2.env0 (b s2 ws I2.kIn hl) rz q2) ?_
  intro res s' hq
  match res, hq with
  | .error e, hq => exact pass0 pins σ H2 s2 e s' I2 hq
  | .ok (.ret u), hq => exact I2.after hq
def FndO (K : PySem.W.Frag) (mg : Str → Option Value) (x : Str) (st : Stmt) (ps : List Str) : Prop :=
  ∃ f fd, Fun K x x st f fd ∧ mg x = some (.ref f) ∧ Binds K fd ps [] ∧ ∀ (s : Shared) (ws : List Value), ws.length = ps.length → BindsTo s fd ⟨[], ps.zip ws⟩ (ps.zip ws)
theorem FndO.fnd {K : PySem.W.Frag} {mg : Str → Option Value} {x : Str} {st : Stmt} {ps : List Str} (D : FndO K mg x st ps) : Fnd K mg x st ps := by
  obtain ⟨f, fd, F, m, b, _⟩ := D
  exact ⟨f, fd, F, m, b⟩
theorem FndO.hasO {P : Program} {w : World} {K : PySem.W.Frag} {mg : Str → Option Value} {base : Heap} {x : Str} {st : Stmt} {ps : List Str} {k : Nat} {sp : Sp} (D : FndO K mg x st ps) (h : ∀ {f fd}, Fun K x x st f fd → FnOk P w K mg base CX0 k f fd ps sp) : HasO P w K mg base x ps k sp := by
  obtain ⟨f, fd, F, m, _, b⟩ := D
  exact ⟨f, fd, h F, m, F.kp, fun s ws _ hl => b s ws hl⟩
theorem fndO_mk {K : PySem.W.Frag} {h : Heap} {mg : Str → Option Value} {x : Str} {st : Stmt} {ps : List Str} {f : Addr} {oc kV dc pm cd ct : Value} {od an : Option Addr} {sl : Array (Option Value)} (X : K.In h) (G : h.Ns mainGlobals mg) (a : PySem.W.nsIn K mainGlobals x = some (some (.ref f))) (l : K.lookup f = some ⟨oc, od, .func (PySem.W.fnOf x x (defArgs st) (defBody st) (defScope st) .none kV dc pm an cd ct), sl⟩)
    (c : PySem.W.codeIn K cd x = true) (k : PySem.W.keepIn K (.ref f) = true)
    (hb : ∀ (kV doc pm : Value) (an : Option Addr) (cdv ct : Value) (us : List Value), us.length = ps.length → bindArgs (PySem.W.fnOf x x (defArgs st) (defBody st) (defScope st) .none kV doc pm an cdv ct) ⟨us, []⟩ = pure (ps.zip us))
    (hk : ∀ (kV doc pm : Value) (an : Option Addr) (cdv ct : Value) (ws : List Value), ws.length = ps.length → bindArgs (PySem.W.fnOf x x (defArgs st) (defBody st) (defScope st) .none kV doc pm an cdv ct) ⟨[], ps.zip ws⟩ = pure (ps.zip ws)) : FndO K mg x st ps := by
  have F := fun_mk l c k
  exact ⟨f, _, F, PySem.W.mg_of X G a, F.binds hb, fun s ws hl => .of_eq (hk _ _ _ _ _ _ ws hl)⟩
end Ur

namespace Hull
/-! ### a row cut in two by a line between two of its rim points -/
/-- a point between two others, told by two weights -/
def lin (p q : Int) (a b : P) : P := (p * a.1 + q * b.1, p * a.2 + q * b.2)
theorem lin_self (p q : Int) (a : P) : lin p q a a = sc (p + q) a := by unfold lin sc; exact Prod.ext (by simp only; grind) (by simp only; grind)
theorem tt_lin1 (p q : Int) (a b x y : P) : tt (lin p q a b) (sc (p + q) x) (sc (p + q) y) = (p + q) * (p * tt a x y + q * tt b x y) := by unfold tt lin sc; grind
theorem tt_lin3 (p q : Int) (a b x y : P) : tt (sc (p + q) x) (sc (p + q) y) (lin p q a b) = (p + q) * (p * tt x y a + q * tt x y b) := by unfold tt lin sc; grind
theorem tt_lin13 {p q p' q' k : Int} (h : p + q = k) (h' : p' + q' = k) (a a' x b b' : P) : tt (lin p q a a') (sc k x) (lin p' q' b b') = p * p' * tt a x b + p * q' * tt a x b' + q * p' * tt a' x b + q * q' * tt a' x b' := by
  subst h
  have e : p' = p + q - q' := by omega
  subst e
  unfold tt lin sc
  grind
theorem tt_cyc (a b c : P) : tt a b c = tt b c a := by unfold tt; grind
theorem tt_same1 (a b : P) : tt a a b = 0 := by unfold tt; grind
theorem tt_same2 (a b : P) : tt a b b = 0 := by unfold tt; grind
theorem tt_same3 (a b : P) : tt a b a = 0 := by unfold tt; grind
theorem tt_scs {k : Int} (a b c : P) : tt (sc k a) (sc k b) (sc k c) = (k * k) * tt a b c := by unfold tt sc; grind
/-- the two sides X and Y of a row; L lies between the last of Y and the first of X, R between the last of X and the first of Y -/
structure Cut (X Y : List P) (A1 A B1 B : P) (p q p' q' k : Int) : Prop where
  hx : ∃ X', X = A1 :: X'
  lx : ∃ X', X = X' ++ [B]
  hy : ∃ Y', Y = B1 :: Y'
  ly : ∃ Y', Y = Y' ++ [A]
  tri : Tri (X ++ Y)
  three : 3 ≤ X.length + Y.length
  pq : p + q = k
  pq' : p' + q' = k
  p0 : 0 < p
  q0 : 0 ≤ q
  p0' : 0 < p'
  q0' : 0 ≤ q'
  ox : X.length = 1 → q' ≠ 0
  oy : Y.length = 1 → q ≠ 0
theorem Cut.swap {X Y : List P} {A1 A B1 B : P} {p q p' q' k : Int} (h : Cut X Y A1 A B1 B p q p' q' k) : Cut Y X B1 B A1 A p' q' p q k :=
  ⟨h.hy, h.ly, h.hx, h.lx, tri_rot h.tri, by have := h.three; omega, h.pq', h.pq, h.p0', h.q0', h.p0, h.q0, h.oy, h.ox⟩
/-- one side with both ends -/
def wetR (X : List P) (A1 A B1 B : P) (p q p' q' k : Int) : List P := lin p q A A1 :: (X.map (sc k) ++ if q' = 0 then [] else [lin p' q' B B1])
theorem pw_all {α : Type} {R S : α → α → Prop} (h : ∀ a b, R a b → S a b) {l : List α} (k : l.Pairwise R) : l.Pairwise S := k.imp (fun {a b} e => h a b e)
theorem pw_and {α : Type} {R S : α → α → Prop} : ∀ {l : List α}, l.Pairwise R → l.Pairwise S → l.Pairwise fun a b => R a b ∧ S a b
  | [], _, _ => .nil
  | a :: r, h, k => by
    rw [List.pairwise_cons] at h k
    exact List.pairwise_cons.mpr ⟨fun b hb => ⟨h.1 b hb, k.1 b hb⟩, pw_and h.2 k.2⟩
theorem tri_from {c : P} : ∀ {X Y : List P}, Tri (X ++ Y) → c ∈ Y → X.Pairwise fun a b => 0 < tt a b c
  | [], _, _, _ => .nil
  | a :: X, Y, h, hc => List.pairwise_cons.mpr ⟨fun b hb => by
      have := (List.pairwise_append.mp h.1).2.2 b hb c hc
      exact this, tri_from h.2 hc⟩
theorem Cut.a_in {X Y : List P} {A1 A B1 B : P} {p q p' q' k : Int} (h : Cut X Y A1 A B1 B p q p' q' k) : A ∈ Y := by
  obtain ⟨Y', e⟩ := h.ly
  rw [e]
  simp
theorem Cut.b1_in {X Y : List P} {A1 A B1 B : P} {p q p' q' k : Int} (h : Cut X Y A1 A B1 B p q p' q' k) : B1 ∈ Y := by
  obtain ⟨Y', e⟩ := h.hy
  rw [e]
  simp
theorem Cut.trix {X Y : List P} {A1 A B1 B : P} {p q p' q' k : Int} (h : Cut X Y A1 A B1 B p q p' q' k) : Tri X := tri_front h.tri
theorem Cut.k0 {X Y : List P} {A1 A B1 B : P} {p q p' q' k : Int} (h : Cut X Y A1 A B1 B p q p' q' k) : 0 < k := by
  have := h.pq
  have := h.p0
  have := h.q0
  omega
theorem mul_nn {a b : Int} (ha : 0 ≤ a) (hb : 0 ≤ b) : 0 ≤ a * b := Int.mul_nonneg ha hb
theorem last_in {α : Type} {X u v : List α} {B : α} (e : X ++ [B] = u ++ v) (h : v ≠ []) : B ∈ v := by
  rw [← List.dropLast_concat_getLast h, ← List.append_assoc] at e
  rw [(List.cons.inj (List.append_inj' e rfl).2).1]
  exact List.getLast_mem h
/-- pairs of X seen from L -/
theorem Cut.p2 {X Y : List P} {A1 A B1 B : P} {p q p' q' k : Int} (h : Cut X Y A1 A B1 B p q p' q' k) : X.Pairwise fun b c => 0 < tt (lin p q A A1) (sc k b) (sc k c) := by
  have h1 := tri_from h.tri h.a_in
  obtain ⟨X', e⟩ := h.hx
  have hT := h.trix
  have h2 : X.Pairwise fun b c => 0 ≤ tt A1 b c := by
    rw [e] at hT ⊢
    exact List.pairwise_cons.mpr ⟨fun b hb => by rw [tt_same1]; exact Int.le_refl _, pw_all (fun a b k => Int.le_of_lt k) hT.1⟩
  refine pw_all (fun b c hh => ?_) (pw_and h1 h2)
  rw [← h.pq, tt_lin1]
  have e1 : tt A b c = tt b c A := tt_cyc A b c
  rw [e1]
  refine Int.mul_pos (by rw [h.pq]; exact h.k0) ?_
  have := Int.mul_pos h.p0 hh.1
  have := mul_nn h.q0 hh.2
  omega
/-- pairs of X seen from R -/
theorem Cut.p3 {X Y : List P} {A1 A B1 B : P} {p q p' q' k : Int} (h : Cut X Y A1 A B1 B p q p' q' k) (hq : q' ≠ 0) : X.Pairwise fun b c => 0 < tt (sc k b) (sc k c) (lin p' q' B B1) := by
  have h1 := tri_from h.tri h.b1_in
  obtain ⟨X', e⟩ := h.lx
  have hT := h.trix
  have h2 : X.Pairwise fun b c => 0 ≤ tt b c B := by
    rw [e] at hT ⊢
    refine List.pairwise_append.mpr ⟨pw_all (fun a b k => Int.le_of_lt k) (tri_from hT (List.mem_singleton.mpr rfl)), List.pairwise_singleton _ _, fun a ha b hb => ?_⟩
    rw [List.mem_singleton.mp hb, tt_same2]
    exact Int.le_refl _
  refine pw_all (fun b c hh => ?_) (pw_and h1 h2)
  rw [← h.pq', tt_lin3]
  refine Int.mul_pos (by rw [h.pq']; exact h.k0) ?_
  have hq' : 0 < q' := by have := h.q0'; omega
  have := Int.mul_pos hq' hh.1
  have := mul_nn (Int.le_of_lt h.p0') hh.2
  omega
/-- L, one of X, R -/
theorem Cut.p4 {X Y : List P} {A1 A B1 B : P} {p q p' q' k : Int} (h : Cut X Y A1 A B1 B p q p' q' k) (hq : q' ≠ 0) {x : P} (hx : x ∈ X) : 0 < tt (lin p q A A1) (sc k x) (lin p' q' B B1) := by
  have hq' : 0 < q' := by have := h.q0'; omega
  rw [tt_lin13 h.pq h.pq']
  obtain ⟨X1, eh⟩ := h.hx
  obtain ⟨X2, el⟩ := h.lx
  obtain ⟨Y1, fh⟩ := h.hy
  obtain ⟨Y2, fl⟩ := h.ly
  have hT := h.tri
  have hX := h.trix
  -- A x B
  have t1 : 0 ≤ tt A x B ∧ (x ≠ B → 0 < tt A x B) := by
    rw [el, List.mem_append] at hx
    rcases hx with hx | hx
    · have := tri_from h.tri h.a_in
      rw [el] at this
      have := (List.pairwise_append.mp this).2.2 x hx B (List.mem_singleton.mpr rfl)
      rw [tt_cyc A x B]
      exact ⟨Int.le_of_lt this, fun _ => this⟩
    · have e := List.mem_singleton.mp hx
      rw [e, tt_same2]
      exact ⟨Int.le_refl _, fun n => (n rfl).elim⟩
  -- A x B1
  have t2 : 0 ≤ tt A x B1 ∧ (1 < Y.length → 0 < tt A x B1) := by
    have hR := tri_rot h.tri
    rcases Nat.lt_or_ge 1 Y.length with y | y
    · have e : ∃ Y3, Y = B1 :: (Y3 ++ [A]) := by
        cases Y1 with
        | nil => rw [fh] at y; simp at y
        | cons z r =>
          refine ⟨(z :: r).dropLast, ?_⟩
          have : Y2 ++ [A] = B1 :: (z :: r) := fl.symm.trans fh
          cases Y2 with
          | nil => cases this
          | cons w s =>
            have e1 : w = B1 := (List.cons.inj this).1
            have e2 : s ++ [A] = z :: r := (List.cons.inj this).2
            rw [fh, ← e2]
            simp
      obtain ⟨Y3, e⟩ := e
      have p := tri_from (X := Y) (Y := X) (c := x) hR hx
      rw [e, List.pairwise_cons] at p
      have p := p.1 A (by simp)
      have : tt A x B1 = tt B1 A x := by rw [tt_cyc B1 A x]
      rw [this]
      exact ⟨Int.le_of_lt p, fun _ => p⟩
    · have e : B1 = A := by
        cases Y1 with
        | nil =>
          have : Y2 ++ [A] = [B1] := fl.symm.trans fh
          cases Y2 with
          | nil => exact (List.cons.inj this).1.symm
          | cons w s => have := congrArg List.length this; simp at this
        | cons z r => rw [fh] at y; simp at y
      rw [e, tt_same3]
      exact ⟨Int.le_refl _, fun n => absurd n (by omega)⟩
  -- A1 x B
  have t3 : 0 ≤ tt A1 x B := by
    by_cases c1 : x = A1
    · rw [c1, tt_same1]; exact Int.le_refl _
    · by_cases c2 : x = B
      · rw [c2, tt_same2]; exact Int.le_refl _
      · have m1 : x ∈ X1 := by
          rw [eh] at hx
          rcases List.mem_cons.mp hx with r | r
          · exact (c1 r).elim
          · exact r
        obtain ⟨u, v, euv⟩ := List.append_of_mem m1
        have ev : v ≠ [] := by
          intro e0
          rw [e0] at euv
          have : X2 ++ [B] = (A1 :: u) ++ [x] := by rw [← el, eh, euv]; rfl
          exact c2 ((List.append_inj' this rfl).2 |> List.cons.inj |>.1).symm
        have mb : B ∈ v := by
          have e2 : X2 ++ [B] = (A1 :: (u ++ [x])) ++ v := by rw [← el, eh, euv]; simp
          exact last_in e2 ev
        rw [eh, euv] at hX
        have := (List.pairwise_cons.mp (List.pairwise_append.mp hX.1).2.1).1 B mb
        exact Int.le_of_lt this
  -- A1 x B1
  have t4 : 0 ≤ tt A1 x B1 ∧ (x ≠ A1 → 0 < tt A1 x B1) := by
    have p := tri_from h.tri h.b1_in
    rw [eh] at hx p
    rcases List.mem_cons.mp hx with r | r
    · rw [r, tt_same1]
      exact ⟨Int.le_refl _, fun n => (n rfl).elim⟩
    · have := (List.pairwise_cons.mp p).1 x r
      exact ⟨Int.le_of_lt this, fun _ => this⟩
  have s1 := mul_nn (mul_nn (Int.le_of_lt h.p0) (Int.le_of_lt h.p0')) t1.1
  have s2 := mul_nn (mul_nn (Int.le_of_lt h.p0) h.q0') t2.1
  have s3 := mul_nn (mul_nn h.q0 (Int.le_of_lt h.p0')) t3
  have s4 := mul_nn (mul_nn h.q0 h.q0') t4.1
  by_cases c : x = B
  · rcases Nat.lt_or_ge 1 Y.length with y | y
    · have := Int.mul_pos (Int.mul_pos h.p0 hq') (t2.2 y)
      omega
    · have y1 : Y.length = 1 := by have : Y.length = Y1.length + 1 := by rw [fh]; simp
                                   omega
      have hq0 : 0 < q := by have := h.q0; have := h.oy y1; omega
      have hne : x ≠ A1 := by
        intro e0
        have x2 : 2 ≤ X.length := by have := h.three; omega
        -- A1 and B are two of X
        cases X1 with
        | nil => rw [eh] at x2; simp at x2
        | cons z r =>
          have p := tri_from h.tri h.b1_in
          have mb : B ∈ z :: r := by
            have e2 : X2 ++ [B] = [A1] ++ (z :: r) := by rw [← el, eh]; rfl
            exact last_in e2 (List.cons_ne_nil _ _)
          rw [eh, List.pairwise_cons] at p
          have := p.1 B mb
          rw [← c, ← e0, tt_same1] at this
          exact absurd this (by omega)
      have := Int.mul_pos (Int.mul_pos hq0 hq') (t4.2 hne)
      omega
  · have := Int.mul_pos (Int.mul_pos h.p0 h.p0') (t1.2 c)
    omega
/-- the side with its ends goes round to the left -/
theorem Cut.wet_tri {X Y : List P} {A1 A B1 B : P} {p q p' q' k : Int} (h : Cut X Y A1 A B1 B p q p' q' k) : Tri (wetR X A1 A B1 B p q p' q' k) := by
  have hk := h.k0
  have tm : Tri (X.map (sc k)) := by
    have : ∀ {l : List P}, Tri l → Tri (l.map (sc k)) := fun {l} => by
      induction l with
      | nil => exact fun _ => trivial
      | cons a r ih => exact fun hl => ⟨List.pairwise_map.mpr (pw_all (fun b c t => by rw [tt_scs]; exact Int.mul_pos (Int.mul_pos hk hk) t) hl.1), ih hl.2⟩
    exact this h.trix
  have p2 : (X.map (sc k)).Pairwise fun b c => 0 < tt (lin p q A A1) b c := List.pairwise_map.mpr h.p2
  unfold wetR
  by_cases c : q' = 0
  · rw [if_pos c, List.append_nil]
    exact ⟨p2, tm⟩
  · rw [if_neg c]
    refine ⟨List.pairwise_append.mpr ⟨p2, List.pairwise_singleton _ _, fun a ha b hb => ?_⟩, tri_snoc tm (List.pairwise_map.mpr (h.p3 c))⟩
    obtain ⟨x, hx, rfl⟩ := List.mem_map.mp ha
    rw [List.mem_singleton.mp hb]
    exact h.p4 c hx
theorem tri_nodup : ∀ {l : List P}, Tri l → 3 ≤ l.length → l.Nodup := by
  have two : ∀ {l : List P}, Tri l → ∀ a b c, List.Sublist [a, b, c] l → a ≠ b ∧ a ≠ c ∧ b ≠ c := fun {l} h a b c s => by
    have t := tri_pos h s
    refine ⟨fun e => ?_, fun e => ?_, fun e => ?_⟩
    · rw [e, tt_same1] at t; exact absurd t (by omega)
    · rw [e, tt_same3] at t; exact absurd t (by omega)
    · rw [e, tt_same2] at t; exact absurd t (by omega)
  intro l h h3
  match l, h, h3 with
  | a :: b :: c :: r, h, _ =>
    rw [List.nodup_cons]
    have rest : (b :: c :: r).Nodup := by
      have := h.1
      rw [List.Nodup]
      refine pw_all (fun x y t e => ?_) this
      rw [e, tt_same2] at t
      exact absurd t (by omega)
    refine ⟨fun m => ?_, rest⟩
    have h1 := h.1
    rw [List.pairwise_cons] at h1
    rcases List.mem_cons.mp m with e | m
    · have := h1.1 c (by simp)
      rw [← e, tt_same1] at this
      exact absurd this (by omega)
    · have := h1.1 a m
      rw [tt_same3] at this
      exact absurd this (by omega)
theorem Cut.wet_len {X Y : List P} {A1 A B1 B : P} {p q p' q' k : Int} (h : Cut X Y A1 A B1 B p q p' q' k) : 3 ≤ (wetR X A1 A B1 B p q p' q' k).length := by
  obtain ⟨X1, eh⟩ := h.hx
  have ox := h.ox
  unfold wetR
  have hx : X.length = X1.length + 1 := by rw [eh]; simp
  by_cases c : q' = 0
  · rw [if_pos c, List.append_nil, List.length_cons, List.length_map]
    by_cases d : X.length = 1
    · exact (ox d c).elim
    · omega
  · rw [if_neg c, List.length_cons, List.length_append, List.length_map]
    simp only [List.length_singleton]
    omega
/-! ### sums once round both sides -/
theorem seg_app (f : P → P → Int) (b c : P) : ∀ (u v : List P), seg f (u ++ [b] ++ c :: v) = seg f (u ++ [b]) + f b c + seg f (c :: v)
  | [], v => by show f b c + seg f (c :: v) = 0 + f b c + seg f (c :: v); omega
  | [a], v => by
    have := seg_app f b c [] v
    show f a b + seg f ([] ++ [b] ++ c :: v) = (f a b + 0) + f b c + seg f (c :: v)
    rw [this]
    show f a b + (0 + f b c + seg f (c :: v)) = _
    omega
  | a :: d :: u, v => by
    have := seg_app f b c (d :: u) v
    show f a d + seg f ((d :: u) ++ [b] ++ c :: v) = (f a d + seg f ((d :: u) ++ [b])) + f b c + seg f (c :: v)
    rw [this]
    omega
/-- once round a row of two sides -/
theorem cyc_two (f : P → P → Int) {X Y : List P} {A1 A B1 B : P} (hx : ∃ X', X = A1 :: X') (lx : ∃ X', X = X' ++ [B]) (hy : ∃ Y', Y = B1 :: Y') (ly : ∃ Y', Y = Y' ++ [A]) : cyc f (X ++ Y) = seg f X + f B B1 + seg f Y + f A A1 := by
  obtain ⟨X1, eh⟩ := hx
  obtain ⟨X2, el⟩ := lx
  obtain ⟨Y1, fh⟩ := hy
  obtain ⟨Y2, fl⟩ := ly
  have e1 : cyc f (X ++ Y) = seg f (X ++ Y ++ [A1]) := by
    rw [eh]
    show seg f (A1 :: ((X1 ++ Y) ++ [A1])) = _
    simp
  rw [e1]
  have e2 : X ++ Y ++ [A1] = X2 ++ [B] ++ B1 :: (Y1 ++ [A1]) := by rw [el, fh]; simp
  rw [e2, seg_app, ← el]
  have e3 : B1 :: (Y1 ++ [A1]) = Y2 ++ [A] ++ A1 :: [] := by
    rw [← fl, fh]
    simp
  rw [e3, seg_app, ← fl]
  show seg f X + f B B1 + (seg f Y + f A A1 + 0) = _
  omega
/-- once round one side with its ends -/
theorem wet_cyc {f : P → P → Int} (h0 : ∀ a, f a a = 0) {X : List P} {A1 A B1 B : P} {p q p' q' k : Int} (hx : ∃ X', X = A1 :: X') (lx : ∃ X', X = X' ++ [B]) (pq' : p' + q' = k) :
    cyc f (wetR X A1 A B1 B p q p' q' k) = seg f (X.map (sc k)) + f (lin p q A A1) (sc k A1) + f (sc k B) (lin p' q' B B1) + f (lin p' q' B B1) (lin p q A A1) := by
  obtain ⟨X1, eh⟩ := hx
  obtain ⟨X2, el⟩ := lx
  have ml : X.map (sc k) = X2.map (sc k) ++ [sc k B] := by rw [el, List.map_append]; rfl
  have mh : X.map (sc k) = sc k A1 :: X1.map (sc k) := by rw [eh]; rfl
  have s1 : seg f (lin p q A A1 :: X.map (sc k)) = f (lin p q A A1) (sc k A1) + seg f (X.map (sc k)) := by rw [mh]; rfl
  unfold wetR
  by_cases c : q' = 0
  · rw [if_pos c, List.append_nil]
    have e : lin p' q' B B1 = sc k B := by
      subst c
      have : p' = k := by omega
      subst this
      unfold lin sc
      exact Prod.ext (by simp only; omega) (by simp only; omega)
    rw [e, h0]
    show seg f (lin p q A A1 :: (X.map (sc k) ++ [lin p q A A1])) = _
    have : lin p q A A1 :: (X.map (sc k) ++ [lin p q A A1]) = (lin p q A A1 :: X2.map (sc k)) ++ [sc k B] ++ lin p q A A1 :: [] := by rw [ml]; simp
    rw [this, seg_app]
    have : (lin p q A A1 :: X2.map (sc k)) ++ [sc k B] = lin p q A A1 :: X.map (sc k) := by rw [ml]; rfl
    rw [this, s1]
    show _ + _ + 0 = _
    omega
  · rw [if_neg c]
    show seg f (lin p q A A1 :: (X.map (sc k) ++ [lin p' q' B B1] ++ [lin p q A A1])) = _
    have : lin p q A A1 :: (X.map (sc k) ++ [lin p' q' B B1] ++ [lin p q A A1]) = (lin p q A A1 :: X2.map (sc k)) ++ [sc k B] ++ lin p' q' B B1 :: [lin p q A A1] := by rw [ml]; simp
    rw [this, seg_app]
    have : (lin p q A A1 :: X2.map (sc k)) ++ [sc k B] = lin p q A A1 :: X.map (sc k) := by rw [ml]; rfl
    rw [this, s1]
    show _ + _ + (_ + 0) = _
    omega
theorem seg_sc {f : P → P → Int} {k m : Int} (hf : ∀ a b, f (sc k a) (sc k b) = m * f a b) : ∀ X : List P, seg f (X.map (sc k)) = m * seg f X
  | [] => by show (0 : Int) = m * 0; omega
  | [a] => by show (0 : Int) = m * 0; omega
  | a :: b :: r => by
    show f (sc k a) (sc k b) + seg f ((b :: r).map (sc k)) = m * (f a b + seg f (b :: r))
    rw [hf, seg_sc hf (b :: r)]
    grind
/-- both sides make up the whole -/
theorem Cut.both {X Y : List P} {A1 A B1 B : P} {p q p' q' k : Int} (h : Cut X Y A1 A B1 B p q p' q' k) {f : P → P → Int} {m : Int} (anti : ∀ a b, f a b = - f b a) (hf : ∀ a b, f (sc k a) (sc k b) = m * f a b)
    (hl : ∀ (u v : Int) (a b : P), u + v = k → f (sc k a) (lin u v a b) + f (lin u v a b) (sc k b) = m * f a b) :
    cyc f (wetR X A1 A B1 B p q p' q' k) + cyc f (wetR Y B1 B A1 A p' q' p q k) = m * cyc f (X ++ Y) := by
  have h0 : ∀ a, f a a = 0 := fun a => by have := anti a a; omega
  rw [wet_cyc h0 h.hx h.lx h.pq', wet_cyc h0 h.hy h.ly h.pq, cyc_two f h.hx h.lx h.hy h.ly, seg_sc hf, seg_sc hf]
  have e1 := hl p q A A1 h.pq
  have e2 := hl p' q' B B1 h.pq'
  have e3 := anti (lin p' q' B B1) (lin p q A A1)
  grind
theorem gA_lin (u v : Int) (a b : P) : gA (sc (u + v) a) (lin u v a b) + gA (lin u v a b) (sc (u + v) b) = (u + v) * (u + v) * gA a b := by unfold gA cr sc lin; grind
theorem gX_lin (u v : Int) (a b : P) : gX (sc (u + v) a) (lin u v a b) + gX (lin u v a b) (sc (u + v) b) = (u + v) * (u + v) * (u + v) * gX a b := by unfold gX cr sc lin; grind
theorem gY_lin (u v : Int) (a b : P) : gY (sc (u + v) a) (lin u v a b) + gY (lin u v a b) (sc (u + v) b) = (u + v) * (u + v) * (u + v) * gY a b := by unfold gY cr sc lin; grind
theorem Cut.areas {X Y : List P} {A1 A B1 B : P} {p q p' q' k : Int} (h : Cut X Y A1 A B1 B p q p' q' k) : cyc gA (wetR X A1 A B1 B p q p' q' k) + cyc gA (wetR Y B1 B A1 A p' q' p q k) = k * k * cyc gA (X ++ Y) :=
  h.both gA_anti (fun a b => by unfold gA cr sc; grind) fun u v a b e => by subst e; exact gA_lin u v a b
theorem Cut.momX {X Y : List P} {A1 A B1 B : P} {p q p' q' k : Int} (h : Cut X Y A1 A B1 B p q p' q' k) : cyc gX (wetR X A1 A B1 B p q p' q' k) + cyc gX (wetR Y B1 B A1 A p' q' p q k) = k * k * k * cyc gX (X ++ Y) :=
  h.both gX_anti (fun a b => by unfold gX cr sc; grind) fun u v a b e => by subst e; exact gX_lin u v a b
theorem Cut.momY {X Y : List P} {A1 A B1 B : P} {p q p' q' k : Int} (h : Cut X Y A1 A B1 B p q p' q' k) : cyc gY (wetR X A1 A B1 B p q p' q' k) + cyc gY (wetR Y B1 B A1 A p' q' p q k) = k * k * k * cyc gY (X ++ Y) :=
  h.both gY_anti (fun a b => by unfold gY cr sc; grind) fun u v a b e => by subst e; exact gY_lin u v a b
end Hull

namespace Hull
/-! ### three points, two of them told in order -/
theorem hull3 (a b c : P) : hull gone [a, b, c] = if tt a b c = 0 then [a, c] else if 0 < tt a b c then [a, b, c] else [a, c, b] := by
  have e : tt c b a = - tt a b c := by unfold tt; grind
  have b1 : bends gone [a, b, c] = if gone a b c = true then [a, c] else [a, b, c] := by
    cases h : gone a b c <;> simp [bends, stack, step, popw, h]
  have b2 : bends gone [c, b, a] = if gone c b a = true then [c, a] else [c, b, a] := by
    cases h : gone c b a <;> simp [bends, stack, step, popw, h]
  have hh : hull gone [a, b, c] = (bends gone [a, b, c]).dropLast ++ (bends gone [c, b, a]).dropLast := rfl
  rw [hh, b1, b2]
  by_cases c0 : tt a b c = 0
  · have g1 : gone a b c = true := decide_eq_true (by omega)
    have g2 : gone c b a = true := decide_eq_true (by omega)
    rw [g1, g2, if_pos c0]
    rfl
  · rw [if_neg c0]
    by_cases c1 : 0 < tt a b c
    · have g1 : gone a b c = false := decide_eq_false (by omega)
      have g2 : gone c b a = true := decide_eq_true (by omega)
      rw [g1, g2, if_pos c1]
      rfl
    · have g1 : gone a b c = true := decide_eq_true (by omega)
      have g2 : gone c b a = false := decide_eq_false (by omega)
      rw [g1, g2, if_neg c1]
      rfl
theorem hull2 (a b : P) : hull gone [a, b] = [a, b] := rfl
theorem lt_irr (a : P) : ¬ lt a a := by unfold lt; omega
theorem lt_asym {a b : P} (h : lt a b) : ¬ lt b a := by unfold lt at *; omega
theorem lt_3w (a b : P) : lt a b ∨ a = b ∨ lt b a := by
  unfold lt
  by_cases h1 : a.1 = b.1
  · by_cases h2 : a.2 = b.2
    · exact Or.inr (Or.inl (Prod.ext h1 h2))
    · omega
  · omega
/-- the hull of a stretch and a point is the stretch just if the point lies on it -/
theorem hl_rod {p q s : P} (h : lt p q) : hl [p, q, s] = [p, q] ↔ tt p q s = 0 ∧ (s = p ∨ lt p s) ∧ (s = q ∨ lt s q) := by
  have npq : p ≠ q := fun e => lt_irr q (e ▸ h)
  have ea : ascOf [p, q, s] = ins p (ins q [s]) := rfl
  have one : ∀ a b c : P, (hull gone [a, b, c] = [p, q] ↔ tt a b c = 0 ∧ a = p ∧ c = q) := fun a b c => by
    rw [hull3]
    by_cases c0 : tt a b c = 0
    · rw [if_pos c0]
      constructor
      · intro e
        exact ⟨c0, (List.cons.inj e).1, (List.cons.inj (List.cons.inj e).2).1⟩
      · rintro ⟨_, rfl, rfl⟩
        rfl
    · rw [if_neg c0]
      constructor
      · intro e
        exfalso
        split at e <;> exact absurd (congrArg List.length e) (by simp)
      · exact fun k => absurd k.1 c0
  have t1 : tt p s q = - tt p q s := by unfold tt; grind
  unfold hl
  rw [ea]
  rcases lt_3w q s with c | c | c
  · have e1 : ins q [s] = [q, s] := by unfold ins; rw [if_pos c]
    have e2 : ins p [q, s] = [p, q, s] := by unfold ins; rw [if_pos h]
    rw [e1, e2, one]
    constructor
    · rintro ⟨_, _, rfl⟩
      exact absurd c (lt_irr _)
    · rintro ⟨_, _, k | k⟩
      · exact absurd (k ▸ c) (lt_irr _)
      · exact absurd k (lt_asym c)
  · subst c
    have e1 : ins q [q] = [q] := by unfold ins; rw [if_neg (lt_irr q), if_pos rfl]
    have e2 : ins p [q] = [p, q] := by unfold ins; rw [if_pos h]
    rw [e1, e2, hull2]
    exact ⟨fun _ => ⟨by unfold tt; grind, Or.inr h, Or.inl rfl⟩, fun _ => rfl⟩
  · have nqs : q ≠ s := fun e => lt_irr s (e ▸ c)
    have e1 : ins q [s] = [s, q] := by
      unfold ins
      rw [if_neg (lt_asym c), if_neg nqs]
      rfl
    rw [e1]
    rcases lt_3w p s with d | d | d
    · have e2 : ins p [s, q] = [p, s, q] := by unfold ins; rw [if_pos d]
      rw [e2, one, t1]
      constructor
      · rintro ⟨k, _, _⟩
        exact ⟨by omega, Or.inr d, Or.inr c⟩
      · rintro ⟨k, _, _⟩
        exact ⟨by omega, rfl, rfl⟩
    · subst d
      have e2 : ins p [p, q] = [p, q] := by unfold ins; rw [if_neg (lt_irr p), if_pos rfl]
      rw [e2, hull2]
      exact ⟨fun _ => ⟨by unfold tt; grind, Or.inl rfl, Or.inr h⟩, fun _ => rfl⟩
    · have nps : p ≠ s := fun e => lt_irr s (e ▸ d)
      have e2 : ins p [s, q] = [s, p, q] := by
        unfold ins
        rw [if_neg (lt_asym d), if_neg nps]
        have : ins p [q] = [p, q] := by unfold ins; rw [if_pos h]
        rw [this]
      rw [e2, one]
      constructor
      · rintro ⟨_, k, _⟩
        exact absurd k.symm nps
      · rintro ⟨_, k | k, _⟩
        · exact absurd k.symm nps
        · exact absurd k (lt_asym d)
def dot (u v : P) : Int := u.1 * v.1 + u.2 * v.2
theorem par_dot {d e : P} (h : Up d) (z : cr d e = 0) : 0 ≤ dot d e ↔ (e = (0, 0) ∨ Up e) := by
  unfold Up at *
  unfold cr at z
  unfold dot
  have key : ∀ {a b : Int}, 0 < a → (0 ≤ a * b ↔ 0 ≤ b) := fun {a b} ha => by
    constructor
    · intro k
      exact Int.not_lt.mp fun n => by
        have := Int.mul_neg_of_pos_of_neg ha n
        omega
    · exact fun k => Int.mul_nonneg (by omega) k
  rcases h with h | ⟨h1, h2⟩
  · have e0 : d.1 * (d.1 * e.1 + d.2 * e.2) = (d.1 * d.1 + d.2 * d.2) * e.1 := by grind
    have dd : 0 < d.1 * d.1 + d.2 * d.2 := by
      have := Int.mul_pos h h
      have : 0 ≤ d.2 * d.2 := by
        rcases Int.le_total 0 d.2 with k | k
        · exact Int.mul_nonneg k k
        · exact Int.mul_nonneg_of_nonpos_of_nonpos k k
      omega
    rw [← key h, e0, key dd]
    constructor
    · intro k
      by_cases c : e.1 = 0
      · left
        have : d.1 * e.2 = 0 := by rw [c] at z; omega
        rcases Int.mul_eq_zero.mp this with r | r
        · omega
        · exact Prod.ext c r
      · right; left; omega
    · rintro (k | k | ⟨k, _⟩)
      · rw [k]; exact Int.le_refl _
      · omega
      · omega
  · have e1 : e.1 = 0 := by
      rw [h1] at z
      have : d.2 * e.1 = 0 := by omega
      rcases Int.mul_eq_zero.mp this with r | r
      · omega
      · exact r
    rw [h1, e1, Int.zero_mul, Int.zero_add, key h2]
    constructor
    · intro k
      by_cases c : e.2 = 0
      · left; exact Prod.ext e1 c
      · right; right; exact ⟨rfl, by omega⟩
    · rintro (k | k | ⟨_, k⟩)
      · rw [k]; exact Int.le_refl _
      · omega
      · omega
theorem lt_mi {a b : P} : lt a b ↔ Up (mi b a) := by unfold lt Up mi; simp only; omega
theorem mi_zero {a b : P} : mi b a = (0, 0) ↔ b = a := by
  unfold mi
  constructor
  · intro e
    have e1 : b.1 - a.1 = 0 := congrArg Prod.fst e
    have e2 : b.2 - a.2 = 0 := congrArg Prod.snd e
    exact Prod.ext (by omega) (by omega)
  · rintro rfl
    exact Prod.ext (by simp only; omega) (by simp only; omega)
/-- on a stretch, by products -/
theorem rod_dot {p q s : P} (h : lt p q) : (tt p q s = 0 ∧ (s = p ∨ lt p s) ∧ (s = q ∨ lt s q)) ↔ (tt p q s = 0 ∧ 0 ≤ dot (mi q p) (mi s p) ∧ 0 ≤ dot (mi p q) (mi s q)) := by
  have hu : Up (mi q p) := lt_mi.mp h
  have e1 : cr (mi q p) (mi s p) = tt p q s := by unfold cr mi tt; grind
  have e2 : cr (mi q p) (mi q s) = - tt p q s := by unfold cr mi tt; grind
  have e3 : dot (mi p q) (mi s q) = dot (mi q p) (mi q s) := by unfold dot mi; grind
  constructor
  · rintro ⟨z, a, b⟩
    refine ⟨z, (par_dot hu (e1.trans z)).mpr ?_, ?_⟩
    · rcases a with a | a
      · exact Or.inl (mi_zero.mpr a)
      · exact Or.inr (lt_mi.mp a)
    · rw [e3]
      refine (par_dot hu (e2.trans (by omega))).mpr ?_
      rcases b with b | b
      · exact Or.inl (mi_zero.mpr b.symm)
      · exact Or.inr (lt_mi.mp b)
  · rintro ⟨z, a, b⟩
    rw [e3] at b
    refine ⟨z, ?_, ?_⟩
    · rcases (par_dot hu (e1.trans z)).mp a with k | k
      · exact Or.inl (mi_zero.mp k)
      · exact Or.inr (lt_mi.mpr k)
    · rcases (par_dot hu (e2.trans (by omega))).mp b with k | k
      · exact Or.inl (mi_zero.mp k).symm
      · exact Or.inr (lt_mi.mpr k)
end Hull

namespace K05
open PySem L2 Ur
def top (i : Nat) : Stmt := PySem.Challenge.pw_hullrests_k05_whole_sections_and_polygon.main.body.getD i (.Pass ⟨0, 0, 0, 0⟩)
abbrev sUrn : Stmt := top 20
abbrev sPull : Stmt := top 21
abbrev sAny : Stmt := top 22
abbrev sNum : Stmt := top 23
abbrev sLaps : Stmt := top 24
/-- what the top leaves of the built-in names -/
structure Bl (mg : Str → Option Value) : Prop where
  int : mg "int" = none
  abs : mg "abs" = none
  len : mg "len" = none
  max : mg "max" = none
  min : mg "min" = none
  divmod : mg "divmod" = none
  range : mg "range" = none
  tuple : mg "tuple" = none
  isinstance : mg "isinstance" = none
  bool : mg "bool" = none
  all : mg "all" = none
  repr : mg "repr" = none
  list : mg "list" = none
  sorted : mg "sorted" = none
  enumerate : mg "enumerate" = none
  zip : mg "zip" = none
  sum : mg "sum" = none
  any : mg "any" = none
section
variable {P : Program} {w : World} {K :
      PySem.W.Frag} {mg : Str → Option Value} {base : Heap}
def spPull : Sp := fun vs H Q _ => ∃ (u : Addr) (m : Int), vs = [.ref u, .int m] ∧ H u = some (UrnO u) ∧ 0 < m ∧ m < 1073741824 ∧ ∀ (r : Int) (H' : Hp), 0 ≤ r → r < m → Same H H' → Q (.int r) H'
abbrev nPull : List Str := ["_law_urn_here", "_law_many", "_law_digit"]
theorem scPull : FnScope nPull ["_law_urn_here", "_law_many"] (defScope sPull) := ⟨rfl, rfl, rfl, by decide +kernel, rfl, by decide +kernel, by decide +kernel⟩
theorem ok_pull {f : Addr} {fd : FuncData} (F : Fun K "_law_pull" "_law_pull" sPull f fd) (T : Bl mg) : FnOk P w K mg base CX0 1 f fd ["_law_urn_here", "_law_many"] spPull := by
  refine F.ok scPull (fun vs H Q E h => ?_) (fun cdv A outer s H vs Q E hr h => ?_)
  · obtain ⟨u, m, rfl, _⟩ := h
    rfl
  · obtain ⟨u, m, rfl, hu, m0, m1, k⟩ := h
    refine ⟨_, pss_urn (pss_cons (ps_if (pt_cmpR op_gt (pe_ix ix_list (pv 0) pe_int (fun _ _ => rfl)) pe_int (nomark _))
        (pss_cons (ps_asg (pe_callB call_divmod (by rfl) T.divmod PyProof.Rows.boot_divmod (pa_cons (pe_ix ix_list (pv 0) pe_int (fun _ _ => rfl)) (pa_cons (pv 1) pa_nil)))
            (pg_tup rfl (pgs_cons (pg_sub (pv 0) pe_int set_list (fun _ => rfl)) (pgs_cons (pg_name (i := 2) scPull.nd rfl (Or.inl rfl)) pgs_nil))))
          (pss_one (ps_ret (pv 2)))) pss_nil)
      (pss_cons (ps_asg (pe_op op_mod (pe_callTy call_int1 (by rfl) T.int PyProof.Rows.boot_int (pa_cons (pe_op op_add (pe_op op_mul (pe_ix ix_list (pv 0) pe_int (fun _ _ => rfl)) pe_int) pe_int) pa_nil)) pe_int) (pg_sub (pv 0) pe_int set_list (fun _ => rfl)))
      (pss_cons (ps_asg (pe_op op_mod (pe_callTy call_int1 (by rfl) T.int PyProof.Rows.boot_int (pa_cons (pe_op op_add (pe_op op_mul (pe_ix ix_list (pv 0) pe_int (fun _ _ => rfl)) pe_int) (pe_ix ix_list (pv 0) pe_int (fun _ _ => rfl))) pa_nil)) pe_int) (pg_sub (pv 0) pe_int set_list (fun _ => rfl)))
      (pss_one (ps_ret (pe_op op_mod (pe_callTy call_int1 (by rfl) T.int PyProof.Rows.boot_int (pa_cons (pe_op op_fdiv (pe_ix ix_list (pv 0) pe_int (fun _ _ => rfl)) pe_int) pa_nil)) (pv 1))))))), ?_⟩
    refine ⟨u, hu, fun a b c B => ?_⟩
    have hq : ∀ (H' : Hp) (r : Int) (a' b' c' : Int), 0 ≤ r → r < m → Bd a' b' c' → (∀ x o, H x = some o → x ≠ u → H' x = some o) → H' u = some (.lst (nums a' b' c')) → Shut u (Q (.int r)) H' := by
      intro H' r a' b' c' r0 r1 B' keep at'
      refine ⟨a', b', c', B', at', k r _ r0 r1 ?_⟩
      intro x o e
      by_cases z : x = u
      · subst z; rw [hu] at e; cases e; exact upd_same
      · rw [upd_ne z]; exact keep x o e z
    have keep0 : ∀ xs x o, H x = some o → x ≠ u → (upd H u (.lst xs)) x = some o := fun xs x o e z => by rw [upd_ne z]; exact e
    refine ⟨_, rfl, u, nums a b c, 0, _, rfl, rfl, SqL.of upd_same, rfl, _, _, rfl, rfl, _, rfl, ?_⟩
    refine ite2 (fun _
          => ?_) (fun _ => ?_)
    · refine ⟨_, rfl, u, nums a b c, 0, _, rfl, rfl, SqL.of upd_same, rfl, _, rfl, a, m, rfl, ⟨m0, m1⟩, fun p hp => ?_⟩
      have npu : p ≠ u := fun z => by rw [z, upd_same] at hp; cases hp
      have npu2 : u ≠ p := fun z => npu z.symm
      refine ⟨p, _, rfl, SqT.of upd_same, rfl, _, _, rfl, ?_⟩
      refine ⟨_, rfl, u, nums a b c, 0, 0, rfl, rfl, by rw [upd_ne npu2, upd_same], rfl, ?_⟩
      refine ⟨_, _, rfl, rfl, ?_⟩
      refine ⟨_, rfl, ?_⟩
      refine hq _ (a % m) (a / m) b c (Int.emod_nonneg _ (by omega)) (Int.emod_lt_of_pos _ m0) ⟨Int.ediv_nonneg B.a0 (by omega), B.b0, B.b1, B.c0, B.c1⟩ (fun x o e z => ?_) upd_same
      rw [upd_ne z, upd_ne (ne_of_none (upd_ne z ▸ e : (upd H u _) x = some o) hp), upd_ne z]
      exact e
    · have b2 := B.b1
      have b3 := B.b0
      have c2 := B.c1
      have c3 := B.c0
      refine ⟨_, rfl, u, nums a b c, 1, _, rfl, rfl, SqL.of upd_same, rfl, _, _, rfl, rfl, Or.inl ⟨by omega, by omega⟩, _, _, rfl, rfl, Or.inl ⟨_, rfl, _, _, rfl, rfl, (by show (0 : Int) < 2147483629; decide), ?_⟩⟩
      refine ⟨_, rfl, u, nums a b c, 1, 1, rfl, rfl, upd_same, rfl, ?_⟩
      rw [upd_upd]
      refine ⟨_, rfl, u, nums a ((b * 37199 + 1201) % 2147483629) c, 2, _, rfl, rfl, SqL.of upd_same, rfl, _, _, rfl, rfl, Or.inl ⟨by omega, by omega⟩, _, rfl, u, nums a ((b * 37199 + 1201) % 2147483629) c, 1, _, rfl, rfl, SqL.of upd_same, rfl, _, _, rfl, rfl, Or.inl ⟨_, rfl, _, _, rfl, rfl, (by show (0 : Int) < 2147483587; decide), ?_⟩⟩
      refine ⟨_, rfl, u, nums a ((b * 37199 + 1201) % 2147483629) c, 2, 2, rfl, rfl, upd_same, rfl, ?_⟩
      rw [upd_upd]
      obtain ⟨b', hb'⟩ : ∃ b', b' = (b * 37199 + 1201) % 2147483629 := ⟨_, rfl⟩
      obtain ⟨c', hc'⟩ : ∃ c', c' = (c * 29443 + b') % 2147483587 := ⟨_, rfl⟩
      have b4 : 0 ≤ b' ∧ b' < 2147483629 := ⟨hb' ▸ Int.emod_nonneg _ (by decide), hb' ▸ Int.emod_lt_of_pos _ (by decide)⟩
      have c4 : 0 ≤ c' ∧ c' < 2147483587 := ⟨hc' ▸ Int.emod_nonneg _ (by decide), hc' ▸ Int.emod_lt_of_pos _ (by decide)⟩
      generalize hH : upd H u _ = H2
      have hu2 : H2 u = some (.lst (nums a b' c')) := by
        rw [← hH, upd_same, hc', hb']
        rfl
      have kp2 : ∀ x o, H x = some o → x ≠ u → H2 x = some o := fun x o e z => by
        rw [← hH, upd_ne z]
        exact e
      refine ⟨_, rfl, u, nums a b' c', 2, _, rfl, rfl, SqL.of hu2, rfl, _, _, rfl, rfl, ⟨by decide, by decide⟩, Or.inl ⟨_, rfl, _, rfl, _, _, rfl, rfl, m0, ?_⟩⟩
      exact hq _ _ a b' c' (Int.emod_nonneg _ (by omega)) (Int.emod_lt_of_pos _ m0) ⟨B.a0, b4.1, by omega, c4.1, by omega⟩ kp2 hu2
end
end K05
namespace K05
open PySem L2 Ur
section
variable {P : Program} {w : World} {K :
      PySem.W.Frag} {mg : Str → Option Value} {base : Heap}
abbrev n_law_urn : List Str := ["_law_script", "_law_lap", "_law_seed", "_law_cell", "_law_own"]
abbrev p_law_urn : List Str := ["_law_script", "_law_lap"]
theorem sc_law_urn : FnScope n_law_urn p_law_urn (defScope sUrn) := ⟨rfl, rfl, rfl, by decide +kernel, rfl, by decide +kernel, by decide +kernel⟩
def spUrn (K : PySem.W.Frag) : Sp := fun vs H Q _ => ∃ (a : Addr) (ns : List Int) (lap : Int), vs = [.ref a, .int lap] ∧ SqL K H a (ns.map V.int) ∧ 0 ≤ lap ∧ lap ≤ 10 ∧
  ∀ (p : Addr) (x y z : Int) (H' : Hp), H p = none → Same H H' → Bd x y z → H' p = some (.lst (nums x y z)) → Q (.ref p) H'
theorem ok_urn {f : Addr} {fd : FuncData} (F : Fun K "_law_urn" "_law_urn" sUrn f fd) (T : Bl mg) : FnOk P w K mg base CX0 1 f fd p_law_urn (spUrn K) := by
  refine F.ok sc_law_urn (fun vs H Q E h => ?_) (fun cdv A outer s H vs Q E hr h => ?_)
  · obtain ⟨a, ns, lap, rfl, _⟩ := h
    rfl
  · obtain ⟨a, ns, lap, rfl, hS, l0, l1, k⟩ := h
    refine ⟨_, (pss_cons (ps_set (i := 2) sc_law_urn.nd rfl (Or.inl rfl) (pe_op op_add pe_int (pe_op op_mul pe_int (pv 1))))
      (pss_cons (ps_for PassesOwn.never rfl (pi_list (pe_slice sl_list (pv 0) po_none (po_some pe_int))) (pg_name (i := 3) sc_law_urn.nd rfl (Or.inl rfl)) (pss_one (ps_set (i := 2) sc_law_urn.nd rfl (Or.inl rfl) (pe_op op_mod (pe_callTy call_int1 (by rfl) T.int PyProof.Rows.boot_int (pa_cons (pe_op op_add (pe_op op_add (pe_op op_mul (pv 2) pe_int) (pe_op op_mod (pe_callTy call_int1 (by rfl) T.int PyProof.Rows.boot_int (pa_cons (pv 3) pa_nil)) pe_int)) pe_int) pa_nil)) pe_int))))
      (pss_cons (ps_set (i := 4) sc_law_urn.nd rfl (Or.inl rfl) (pe_ifExp (pt_cmpR op_lt (pv 1) (pe_callB call_len_seq (by rfl) T.len PySem.boot_len (pa_cons (pv 0) pa_nil)) (nomark _)) (pe_callB call_abs (by rfl) T.abs PyProof.Rows.boot_abs (pa_cons (pe_callTy call_int1 (by rfl) T.int PyProof.Rows.boot_int (pa_cons (pe_ix ix_list (pv 0) (pv 1) (fun _ _ => rfl)) pa_nil)) pa_nil)) pe_int))
      (pss_one (ps_ret (pe_lst (pa_cons (pe_ifExp (pt_cmpR op_ge (pv 4) (pe_op op_pow pe_int pe_int) (nomark _)) (pv 4) pe_int) (pa_cons (pe_op op_mod (pe_callTy call_int1 (by rfl) T.int PyProof.Rows.boot_int (pa_cons (pe_op op_add (pe_op op_add (pe_op op_mul (pv 2) pe_int) (pe_op op_mod (pe_callTy call_int1 (by rfl) T.int PyProof.Rows.boot_int (pa_cons (pv 4) pa_nil)) pe_int)) pe_int) pa_nil)) pe_int) (pa_cons (pe_op op_add (pv 2) pe_int) pa_nil))))))))), ?_⟩
    refine ⟨_, rfl, _, _, rfl, rfl, Or.inl ⟨by decide, by decide⟩, _, _, rfl, rfl, ?_⟩
    refine ⟨_, rfl, 63, rfl, a, ns.map V.int, rfl, hS, fun p hp => ⟨p, rfl, ⟨_, SqL.of upd_same⟩, ?_⟩⟩
    obtain ⟨ms, ec⟩ : ∃ ms : List Int, cutV (ns.map V.int) none (some 63) = ms.map V.int := ⟨(ns.drop _).take _, by unfold cutV; rw [List.map_take, List.map_drop]⟩
    rw [ec]
    refine for_list (K := K) (a := p) (xs := ms.map V.int) (fun i σ H' => ∃ (sd : Int) (v : Option V), σ = [some (.ref a), some (.int lap), some (.int sd), v, none] ∧ 0 ≤ sd ∧ sd < 2147483549 ∧ Same H H' ∧ SqL K H' p (ms.map V.int))
      ⟨60427 + 7001 * lap, none, rfl, by omega, by omega, same_new hp, SqL.of upd_same⟩ (fun i σ H' _ ⟨_, _, _, _, _, _, z⟩ => z) ?_ ?_
    · rintro i y σ H' hi ⟨sd, v, rfl, s0, s1, sm, sq⟩
      obtain ⟨z, _, rfl⟩ := map_at hi
      refine ⟨_, rfl, _, _, rfl, rfl, Or.inl ⟨by omega, by omega⟩, _, rfl, Or.inl ⟨_, rfl, _, _, rfl, rfl, (by show (0 : Int) < 2147483549; decide), _, _, rfl, rfl, _, _, rfl, rfl, Or.inl ⟨_, rfl, _, _, rfl, rfl, (by show (0 : Int) < 2147483549; decide), ?_⟩⟩⟩
      exact ⟨_, _, rfl, Int.emod_nonneg _ (by decide), Int.emod_lt_of_pos _ (by decide), sm, sq⟩
    · rintro σ H' ⟨sd, v, rfl, s0, s1, sm, sq⟩
      have hS' := sm.seq hS
      obtain ⟨j, rfl⟩ := Int.eq_ofNat_of_zero_le l0
      refine ⟨_, rfl, _, rfl, a, _, rfl, Or.inl hS', _, _, rfl, rfl, _, rfl, ?_⟩
      have own0 : ∀ z : Int, 0 ≤ (if z < 0 then -z else z) := fun z => by split <;> omega
      have md : ∀ y : Int, 0 ≤ y % 2147483563 ∧ y % 2147483563 < 2147483563 := fun y => ⟨Int.emod_nonneg _ (by decide), Int.emod_lt_of_pos _ (by decide)⟩
      refine ite2 (fun c
            => ?_) (fun c => ?_)
      · have hj : j < ns.length := by
          have := of_decide_eq_true c
          rw [List.length_map] at this
          omega
        have hat : (ns.map V.int)[j]? = some (V.int ns[j]) := by simp [hj]
        refine ⟨_, rfl, _, rfl, a, _, _, _, rfl, rfl, hS', atI_nat hat, Or.inl ⟨_, rfl, _, rfl, ?_⟩⟩
        refine ⟨_, rfl, _, _, rfl, rfl, ⟨by decide, by decide, by decide⟩, _, _, rfl, rfl, _, rfl, ?_⟩
        generalize ho : (if ns[j] < 0 then -ns[j] else ns[j]) = own
        have o0 : 0 ≤ own := ho ▸ own0 _
        refine ite2 (fun _
              => ?_) (fun _ => ?_)
        · refine ⟨_, rfl, _, rfl, _, _, rfl, rfl, Or.inr ⟨by decide, by decide⟩, _, rfl, Or.inl ⟨_, rfl, _, _, rfl, rfl, (by show (0 : Int) < 2147483563; decide), _, _, rfl, rfl, _, _, rfl, rfl, Or.inl ⟨_, rfl, _, _, rfl, rfl, (by show (0 : Int) < 2147483563; decide), _, rfl, _, _, rfl, rfl, (by show 3 ≤ sizeLine; decide), fun q hq => ?_⟩⟩⟩
          exact k q own _ _ _ (sm.free hq) (sm.trans (same_new hq)) ⟨o0, (md _).1, by have := (md (sd * 41203 + own % 2147483563 + 5)).2; omega, by omega, by omega⟩ upd_same
        · refine ⟨_, rfl, _, _, rfl, rfl, Or.inr ⟨by decide, by decide⟩, _, rfl, Or.inl ⟨_, rfl, _, _, rfl, rfl, (by show (0 : Int) < 2147483563; decide), _, _, rfl, rfl, _, _, rfl, rfl, Or.inl ⟨_, rfl, _, _, rfl, rfl, (by show (0 : Int) < 2147483563; decide), _, rfl, _, _, rfl, rfl, (by show 3 ≤ sizeLine; decide), fun q hq => ?_⟩⟩⟩
          exact k q 0 _ _ _ (sm.free hq) (sm.trans (same_new hq)) ⟨by decide, (md _).1, by have := (md (sd * 41203 + own % 2147483563 + 5)).2; omega, by omega, by omega⟩ upd_same
      · refine ⟨_, rfl, _, _, rfl, rfl, ⟨by decide, by decide, by decide⟩, _, _, rfl, rfl, _, rfl, ?_⟩
        refine ite2 (fun _
              => ?_) (fun _ => ?_)
        · refine ⟨_, rfl, _, rfl, _, _, rfl, rfl, Or.inr ⟨by decide, by decide⟩, _, rfl, Or.inl ⟨_, rfl, _, _, rfl, rfl, (by show (0 : Int) < 2147483563; decide), _, _, rfl, rfl, _, _, rfl, rfl, Or.inl ⟨_, rfl, _, _, rfl, rfl, (by show (0 : Int) < 2147483563; decide), _, rfl, _, _, rfl, rfl, (by show 3 ≤ sizeLine; decide), fun q hq => ?_⟩⟩⟩
          exact k q 0 _ _ _ (sm.free hq) (sm.trans (same_new hq)) ⟨by decide, (md _).1, by have := (md (sd * 41203 + 0 % 2147483563 + 5)).2; omega, by omega, by omega⟩ upd_same
        · refine ⟨_, rfl, _, _, rfl, rfl, Or.inr ⟨by decide, by decide⟩, _, rfl, Or.inl ⟨_, rfl, _, _, rfl, rfl, (by show (0 : Int) < 2147483563; decide), _, _, rfl, rfl, _, _, rfl, rfl, Or.inl ⟨_, rfl, _, _, rfl, rfl, (by show (0 : Int) < 2147483563; decide), _, rfl, _, _, rfl, rfl, (by show 3 ≤ sizeLine; decide), fun q hq => ?_⟩⟩⟩
          exact k q 0 _ _ _ (sm.free hq) (sm.trans (same_new hq)) ⟨by decide, (md _).1, by have := (md (sd * 41203 + 0 % 2147483563 + 5)).2; omega, by omega, by omega⟩ upd_same
end
end K05
namespace Ur
open PySem L2
/-! ### Euclid, by halves -/
theorem gcd_turn {x y B i : Nat} (hy : 0 < y) (hxy : y < x) (h : x * y * 2 ^ i ≤ B) : y * (x % y) * 2 ^ (i + 1) ≤ B := by
  have h1 : 2 * (x % y) ≤ x := by
    have a := Nat.mod_lt x hy
    have b := Nat.mod_add_div x y
    have c : 1 ≤ x / y := (Nat.one_le_div_iff hy).mpr (Nat.le_of_lt hxy)
    have d : y * 1 ≤ y * (x / y) := Nat.mul_le_mul_left _ c
    omega
  have h2 : y * (x % y) * 2 ^ (i + 1) = y * (2 * (x % y)) * 2 ^ i := by
    rw [Nat.pow_succ, Nat.mul_comm (2 ^ i) 2, ← Nat.mul_assoc, Nat.mul_assoc y (x % y) 2, Nat.mul_comm (x % y) 2]
  rw [h2]
  refine Nat.le_trans (Nat.mul_le_mul_right _ (Nat.mul_le_mul_left _ h1)) ?_
  rw [Nat.mul_comm y x]
  exact h
theorem gcd_ends {x y B i : Nat} (hxy : y < x) (h : x * y * 2 ^ i ≤ B) (hB : B < 2 ^ i) : y = 0 := by
  cases y with
  | zero => rfl
  | succ y =>
    have : 1 * 2 ^ i ≤ x * (y + 1) * 2 ^ i := Nat.mul_le_mul_right _ (Nat.mul_pos (by omega) (by omega))
    omega
end Ur
namespace K05
open PySem L2 Ur
abbrev sGcd : Stmt := top 25
abbrev sThin : Stmt := top 26
section
variable {P : Program} {w : World} {K :
      PySem.W.Frag} {mg : Str → Option Value} {base : Heap}
abbrev n_law_gcd : List Str := ["_law_one", "_law_two", "_law_step"]
abbrev p_law_gcd : List Str := ["_law_one", "_law_two"]
theorem sc_law_gcd : FnScope n_law_gcd p_law_gcd (defScope sGcd) := ⟨rfl, rfl, rfl, by decide +kernel, rfl, by decide +kernel, by decide +kernel⟩
def spGcd : Sp := fun vs H Q _ => ∃ a b : Nat, vs = [.int a, .int b] ∧ b < 2 ^ 9000 ∧ Q (.int ((Nat.gcd a b : Nat) : Int)) H
theorem ok_gcd {f : Addr} {fd : FuncData} (F : Fun K "_law_gcd" "_law_gcd" sGcd f fd) (T : Bl mg) : FnOk P w K mg base CX0 1 f fd p_law_gcd spGcd := by
  refine F.ok sc_law_gcd (fun vs H Q E h => ?_) (fun cdv A outer s H vs Q E hr h => ?_)
  · obtain ⟨a, b, rfl, _⟩ := h
    rfl
  · obtain ⟨a, b, rfl, hb, k⟩ := h
    refine ⟨_, (pss_cons (ps_for PassesOwn.never rfl (pi_range1 (by rfl) T.range (pa_cons pe_int pa_nil)) (pg_name (i := 2) sc_law_gcd.nd rfl (Or.inl rfl)) (pss_cons (ps_if (pt_cmpR op_eq (pv 1) pe_int (nomark _)) (pss_one ps_break) pss_nil)
      (pss_one (ps_par (i := 0) (j := 1) rfl sc_law_gcd.nd rfl rfl (by decide) rfl rfl (pa_cons (pv 1) (pa_cons (pe_op op_mod (pe_callTy call_int1 (by rfl) T.int PyProof.Rows.boot_int (pa_cons (pv 0) pa_nil)) (pv 1)) pa_nil)) (by rfl)))))
      (pss_one (ps_ret (pv 0)))), ?_⟩
    have hB : b * b < 2 ^ 19998 := by
      have h1 : b * b < 2 ^ 9000 * 2 ^ 9000 := Nat.mul_lt_mul'' hb hb
      rw [← Nat.pow_add] at h1
      exact Nat.lt_of_lt_of_le h1 (Nat.pow_le_pow_right (by decide) (by decide))
    refine ⟨20000, rfl, by decide, by decide, for_range (lo := 0) (n := 20000) (fun i σ H' => ∃ (x y : Nat) (v : Option V), σ = [some (.int x), some (.int y), v] ∧ H' = H ∧ Nat.gcd x y = Nat.gcd a b ∧
      (i = 0 → x = a ∧ y = b) ∧ (0 < i → y < x ∧ x * y * 2 ^ (i - 1) ≤ b * b)) ⟨a, b, none, rfl, rfl, rfl, fun _ => ⟨rfl, rfl⟩, fun z => absurd z (by decide)⟩ ?_ ?_⟩
    · rintro i σ H' hi ⟨x, y, v, rfl, rfl, hg, h0, h1⟩
      refine ⟨_, rfl,
            rfl, _, rfl, ?_⟩
      refine ite2 (fun c
            => ?_) (fun c => ?_)
      · have e : (y : Int) = 0 := V.int.inj (of_decide_eq_true c)
        have e' : y = 0 := by omega
        subst e'
        rw [Nat.gcd_zero_right] at hg
        refine ⟨_, rfl, ?_⟩
        rw [hg]
        exact k
      · have e : ¬ y = 0 := fun z => c (decide_eq_true (by rw [z]; rfl))
        have hy : 0 < y := Nat.pos_of_ne_zero e
        refine ⟨_, rfl, _, rfl, Or.inl ⟨_, rfl, _, rfl, _, _, rfl, rfl, (by show (0 : Int) < (y : Int); omega), _, _, rfl, ?_⟩⟩
        refine ⟨y, x % y, some (.int (0 + (i : Int))), ?_, rfl, ?_, fun z => absurd z (by omega), fun _ => ⟨Nat.mod_lt _ hy, ?_⟩⟩
        · rw [Int.natCast_emod]
          rfl
        · rw [← hg, Nat.gcd_comm x y]
          exact (Nat.gcd_rec y x).symm ▸ Nat.gcd_comm _ _
        · cases i with
          | zero =>
            obtain ⟨rfl, rfl⟩ := h0 rfl
            have := Nat.mod_lt x hy
            show y * (x % y) * 2 ^ 0 ≤ y * y
            rw [Nat.pow_zero, Nat.mul_one]
            exact Nat.mul_le_mul_left _ (Nat.le_of_lt this)
          | succ i =>
            obtain ⟨h2, h3⟩ := h1 (by omega)
            exact gcd_turn hy h2 h3
    · rintro σ H' ⟨x, y, v, rfl, rfl, hg, h0, h1⟩
      obtain ⟨h2, h3⟩ := h1 (by decide)
      have e' : y = 0 := gcd_ends h2 h3 (Nat.lt_of_lt_of_le hB (Nat.pow_le_pow_right (by decide) (by decide)))
      subst e'
      rw [Nat.gcd_zero_right] at hg
      refine ⟨_, rfl, ?_⟩
      rw [hg]
      exact k
/-! ### thin -/
def gAll (ns : List Int) : Nat := ns.foldl (fun g n => Nat.gcd g n.natAbs) 0
def thin (ns : List Int) : List Int := if gAll ns < 2 then ns else ns.map fun n => n / (gAll ns : Int)
abbrev n_law_thin : List Str := ["_law_row", "_law_common", "_law_number"]
abbrev p_law_thin : List Str := ["_law_row"]
theorem sc_law_thin : FnScope n_law_thin p_law_thin (defScope sThin) := ⟨rfl, rfl, rfl, by decide +kernel, rfl, by decide +kernel, by decide +kernel⟩
def spThin (K : PySem.W.Frag) : Sp := fun vs H Q _ => ∃ (t : Addr) (ns : List Int), vs = [.ref t] ∧ SqT K H t (ns.map V.int) ∧ ns.length ≤ 1000 ∧ (∀ n ∈ ns, n.natAbs < 2 ^ 9000) ∧
  ∀ (p : Addr) (H' : Hp), Same H H' → SqT K H' p ((thin ns).map V.int) → Q (.ref p) H'
theorem take_next {α : Type} {l : List α} {i : Nat} {x : α}
      (h : l[i]? = some x) : l.take (i + 1) = l.take i ++ [x] := by
  obtain ⟨hi, rfl⟩ := List.getElem?_eq_some_iff.mp h
  exact List.take_succ_eq_append_getElem hi
theorem gAll_next {ns : List Int} {i : Nat} {z : Int} (h : ns[i]? = some z) : gAll (ns.take (i + 1)) = Nat.gcd (gAll (ns.take i)) z.natAbs := by
  unfold gAll
  rw [take_next h, List.foldl_append]
  rfl
theorem gAll_big : ∀ (ns : List Int) (g : Nat), g < 2 ^ 9000 → (∀ n ∈ ns, n.natAbs < 2 ^ 9000) → ns.foldl (fun g n => Nat.gcd g n.natAbs) g < 2 ^ 9000
  | [], g, h, _ => h
  | n :: r, g, h, hs => by
    refine gAll_big r _ ?_ fun m hm => hs m (List.mem_cons_of_mem _ hm)
    have hn := hs n List.mem_cons_self
    show Nat.gcd g n.natAbs < 2 ^ 9000
    by_cases z : g = 0
    · rw [z, Nat.gcd_zero_left]; exact hn
    · exact Nat.lt_of_le_of_lt (Nat.gcd_le_left _ (Nat.pos_of_ne_zero z)) h
theorem abs_nat (z : Int) : (if z < 0 then -z else z) = ((z.natAbs : Nat) : Int) := by
  split <;> omega
theorem big0 : 0 < 2 ^ 9000 := Nat.pow_pos (by decide)
theorem ok_thin {f : Addr} {fd : FuncData} (F : Fun K "_law_thin" "_law_thin" sThin f fd) (T : Bl mg) (H_law_gcd : Has P w K mg base "_law_gcd" p_law_gcd 1 spGcd) : FnOk P w K mg base CX0 2 f fd p_law_thin (spThin K) := by
  refine F.ok sc_law_thin (fun vs H Q E h => ?_) (fun cdv A outer s H vs Q E hr h => ?_)
  · obtain ⟨t, ns, rfl, _⟩ := h
    rfl
  · obtain ⟨t, ns, rfl, hS, hl, hb, k⟩ := h
    refine ⟨_, (pss_cons (ps_set (i := 1) sc_law_thin.nd rfl (Or.inr rfl) pe_int)
      (pss_cons (ps_for PassesOwn.never rfl (pi_tup (pv 0)) (pg_name (i := 2) sc_law_thin.nd rfl (Or.inl rfl)) (pss_one (ps_set (i := 1) sc_law_thin.nd rfl (Or.inr rfl) (pe_has H_law_gcd (hr.mono (by decide)) (by rfl) (pa_cons (pv 1) (pa_cons (pe_callB call_abs (by rfl) T.abs PyProof.Rows.boot_abs (pa_cons (pv 2) pa_nil)) pa_nil))))))
      (pss_one (ps_ret (pe_ifExp (pt_cmpR op_lt (pv 1) pe_int (nomark _)) (pe_callTy call_tuple_of (by rfl) T.tuple PyProof.Rows.boot_tuple (pa_cons (pv 0) pa_nil)) (pe_callTy call_tuple_of (by rfl) T.tuple PyProof.Rows.boot_tuple (pa_cons (pe_lc (own := [("_law_number", 2)]) (g := gName 2) (tt := tYes) rfl sc_law_thin.nd (pi_tup (pv 0)) (blkOk_by (N := n_law_thin) (sc := defScope sThin) (by decide +kernel)) (fun _ _ _ _ _ => pg_name (i := 2) sc_law_thin.nd rfl (Or.inl rfl)) (fun _ _ _ _ _ => pts_nil) (fun _ _ _ _ _ => (pe_op op_fdivW (pv 2) (pv 1)))) pa_nil))))))), ?_⟩
    refine ⟨_, rfl, t, rfl, ⟨_, hS⟩, for_tup (K := K) (a := t) (xs := ns.map V.int) (fun i σ H' => ∃ v : Option V, σ = [some (.ref t), some (.int (gAll (ns.take i) : Nat)), v] ∧ H' = H) ⟨none, rfl, rfl⟩ (fun i σ H' _ ⟨_, _, e⟩ => e ▸ hS) ?_ ?_⟩
    · rintro i y σ H' hi ⟨v, rfl, rfl⟩
      obtain ⟨z, hz, rfl⟩ := map_at hi
      have hzb := hb z (List.mem_of_getElem? hz)
      refine ⟨_, rfl, _, rfl, _, rfl, ?_⟩
      refine ⟨gAll (ns.take i), z.natAbs, by rw [← abs_nat]; rfl, hzb, ?_⟩
      refine ⟨some (V.int z), ?_, rfl⟩
      rw [gAll_next hz]
      rfl
    · rintro σ H' ⟨v, rfl, rfl⟩
      have eg : gAll (ns.take (ns.map V.int).length) = gAll ns := by rw [List.length_map, List.take_length]
      rw [eg]
      refine ⟨_, rfl, _, _,
            rfl, rfl, _, rfl, ?_⟩
      refine ite2 (fun c
            => ?_) (fun c => ?_)
      · have c' := of_decide_eq_true c
        refine ⟨_, rfl, t, _, rfl, Or.inr ⟨hS, ?_⟩⟩
        refine k t H' (Same.refl _) ?_
        unfold thin
        rw [if_pos (by omega)]
        exact hS
      · have c' : ¬ gAll ns < 2 := fun z => c (decide_eq_true (by omega))
        have gb : gAll ns < 2 ^ 9000 := gAll_big ns 0 big0 hb
        unfold tCB tCons tNil
        dsimp only
        refine lcT (K := K) (a := t) (xs := ns.map V.int) (fun i y => ∃ z, ns[i]? = some z ∧ y = .int (z / (gAll ns : Int))) (fun R r => ⟨_, rfl, r⟩) hS (by rw [List.length_map]; omega) (fun x => rfl) (fun i x H3 hi _ Q' q' => ?_) (fun D ys H2 hD sm hy e1 e2 => ?_)
        · obtain ⟨z, hz, rfl⟩ := map_at hi
          exact ⟨_, rfl, _, rfl, _, _, rfl, rfl, wide_div (b := 9000) (by omega) (by simpa using gb) (by decide) (by decide), q' _ _ ⟨z, hz, rfl⟩ (Same.refl _)⟩
        · refine ⟨D, ys, rfl, Or.inl ⟨SqL.of hy, fun l hl => ?_⟩⟩
          refine k l _ (sm.trans (same_new hl)) ?_
          have ey : ys = (thin ns).map V.int := by
            unfold thin
            rw [if_neg c']
            apply List.ext_getElem?
            intro i
            cases h : ys[i]? with
            | none =>
              have := List.getElem?_eq_none_iff.mp h
              rw [List.getElem?_eq_none (by simp at e1 ⊢; omega)]
            | some y =>
              obtain ⟨z, hz, rfl⟩ := e2 i y h
              simp [hz]
          rw [← ey]
          exact SqT.of upd_same
end
end K05
namespace K05
open PySem L2 Ur
abbrev sCom : Stmt := top 2
abbrev sWhole : Stmt := top 11
abbrev sWholes : Stmt := top 12
abbrev sPointF : Stmt := top 13
def isFr : List V → Bool
  | [.int n, .int m] => decide (0 < m) && decide (Nat.gcd n.natAbs m.natAbs = 1)
  | _ => false
def isPt : List V → Bool
  | [.int x, .int y, .int w] => decide (0 < w) && decide (Nat.gcd (Nat.gcd x.natAbs y.natAbs) w.natAbs = 1)
  | _ => false
def isDr : List V → Bool
  | [.int n, .int m] => decide (Nat.gcd n.natAbs m.natAbs = 1)
  | _ => false
theorem ns_len {n : Nat} {ns : List Int} (h : decide (V.int ((ns.map V.int).length : Int) = V.int (n : Int)) = true) : ns.length = n := by
  have e := V.int.inj (of_decide_eq_true h)
  rw [List.length_map] at e
  omega
theorem not_len {n : Nat} {ns : List Int} (h : ¬ decide (V.int ((ns.map V.int).length : Int) = V.int (n : Int)) = true) : ns.length ≠ n := fun e => h (decide_eq_true (by rw [List.length_map, e]))
theorem fr_no {ns : List Int} (h : ns.length ≠ 2) : isFr (ns.map V.int) = false := by
  match ns, h with
  | [], _ => rfl
  | [_], _ => rfl
  | _ :: _ :: _ :: _, _ => rfl
theorem dr_no {ns : List Int} (h : ns.length ≠ 2) : isDr (ns.map V.int) = false := by
  match ns, h with
  | [], _ => rfl
  | [_], _ => rfl
  | _ :: _ :: _ :: _, _ => rfl
theorem pt_no {ns : List Int} (h : ns.length ≠ 3) : isPt (ns.map V.int) = false := by
  match ns, h with
  | [], _ => rfl
  | [_], _ => rfl
  | [_, _], _ => rfl
  | _ :: _ :: _ :: _ :: _, _ => rfl
theorem fr_wh : ∀ {xs : List V}, isFr xs = true → xs.all wh = true
  | [.int n, .int m], _ => rfl
theorem dr_wh : ∀ {xs : List V}, isDr xs = true → xs.all wh = true
  | [.int n, .int m], _ => rfl
theorem pt_wh : ∀ {xs : List V}, isPt xs = true → xs.all wh = true
  | [.int x, .int y, .int w], _ => rfl
theorem of_wh {g : List V → Bool} (hg : ∀ {xs : List V}, g xs = true → xs.all wh = true) {xs : List V} (h : xs.all wh = false) : g xs = false := by
  cases e : g xs with
  | false => rfl
  | true => rw [hg e] at h; cases h
section
variable {P : Program} {w : World} {K :
      PySem.W.Frag} {mg : Str → Option Value} {base : Heap}
/-! ### gcds -/
abbrev n_common_divisor : List Str := ["numbers", "found", "number"]
abbrev p_common_divisor : List Str := ["numbers"]
theorem sc_common_divisor : FnScope n_common_divisor p_common_divisor (defScope sCom) := ⟨rfl, rfl, rfl, by decide +kernel, rfl, by decide +kernel, by decide +kernel⟩
def spCom (K : PySem.W.Frag) : Sp := fun vs H Q _ => ∃ (t : Addr) (ns : List Int), vs = [.ref t] ∧ SqT K H t (ns.map V.int) ∧ Q (.int (gAll ns : Nat)) H
theorem ok_com {f : Addr} {fd : FuncData} (F : Fun K "common_divisor" "common_divisor" sCom f fd) (mG : mg "gcd" = some (.builtin "math.gcd")) : FnOk P w K mg base CX0 1 f fd p_common_divisor (spCom K) := by
  refine F.ok sc_common_divisor (fun vs H Q E h => ?_) (fun cdv A outer s H vs Q E hr h => ?_)
  · obtain ⟨t, ns, rfl, _⟩ := h
    rfl
  · obtain ⟨t, ns, rfl, hS, k⟩ := h
    refine ⟨_, (pss_cons (ps_set (i := 1) sc_common_divisor.nd rfl (Or.inl rfl) pe_int)
      (pss_cons (ps_for PassesOwn.never rfl (pi_tup (pv 0)) (pg_name (i := 2) sc_common_divisor.nd rfl (Or.inl rfl)) (pss_one (ps_set (i := 1) sc_common_divisor.nd rfl (Or.inl rfl) (pe_callBfun cr_gcd (by rfl) mG (pa_cons (pv 1) (pa_cons (pv 2) pa_nil))))))
      (pss_one (ps_ret (pv 1))))), ?_⟩
    refine ⟨_, rfl, t, rfl, ⟨_, hS⟩, for_tup (K := K) (a := t) (xs := ns.map V.int) (fun i σ H' => ∃ v : Option V, σ = [some (.ref t), some (.int (gAll (ns.take i) : Nat)), v] ∧ H' = H) ⟨none, rfl, rfl⟩ (fun i σ H' _ ⟨_, _, e⟩ => e ▸ hS) ?_ ?_⟩
    · rintro i y σ H' hi ⟨v, rfl, rfl⟩
      obtain ⟨z, hz, rfl⟩ := map_at hi
      refine ⟨_, rfl, _, rfl, _, _, rfl, some (V.int z), ?_, rfl⟩
      rw [gAll_next hz, Int.natAbs_natCast]
      rfl
    · rintro σ H' ⟨v, rfl, rfl⟩
      rw [List.length_map,
            List.take_length]
      exact ⟨_, rfl, k⟩
/-! ### whole numbers -/
def spWhole (K : PySem.W.Frag) : Sp := fun vs H Q _ => ∃ (x : V) (k : Kd), vs = [x] ∧ OfKd K H x k ∧ Q (.bl (wh x)) H
theorem whole_read {K : PySem.W.Frag} {x : V} {k : Kd} {H : Hp} {Q : VK} (hx : OfKd K H x k) (q : Q (.bl (wh x)) H) :
    tRet (tAndV (tCB (rIsi K) (tCons (tVar 0) (tCons (tC (.ty "int")) tNil))) (tNotV (tCB (rIsi K) (tCons (tVar 0) (tCons (tC (.ty "bool")) tNil))))) { nx := fun _ H' => Q .non H', rt := Q } [some x] H := by
  refine ⟨x, rfl, x, _, _, _, _, rfl, .ty "int", hx, kit_ty (kd_int k), _, rfl, ?_⟩
  have ew := ofKd_wh hx
  refine ite2 (fun c
        => ?_) (fun c => ?_)
  · refine ⟨x, rfl, x, _, _, _, _, rfl, .ty "bool", hx, kit_ty (kd_bool k), _, rfl, ?_⟩
    have : (!(k == Kd.bool)) = wh x := by
      rw [← ew]
      cases k <;> first | rfl | (exact absurd c (by decide))
    rw [this]
    exact q
  · have : false = wh x := by
      rw [← ew]
      cases k <;> first | rfl | (exact absurd rfl c)
    rw [this]
    exact q
abbrev n_is_whole : List Str := ["value"]
theorem sc_is_whole : FnScope n_is_whole n_is_whole (defScope sWhole) := ⟨rfl, rfl, rfl, by decide +kernel, rfl, by decide +kernel, by decide +kernel⟩
theorem ok_whole {f : Addr} {fd : FuncData} (F : Fun K "is_whole" "is_whole" sWhole f fd) (T : Bl mg) : FnOk P w K mg base CX0 1 f fd n_is_whole (spWhole K) := by
  refine F.ok sc_is_whole (fun vs H Q E h => ?_) (fun cdv A outer s H vs Q E hr h => ?_)
  · obtain ⟨x, k, rfl, _⟩ := h
    rfl
  · obtain ⟨x, k, rfl, hx, q⟩ := h
    exact ⟨_, (pss_one (ps_ret (pe_and (pe_callB call_isi (by rfl) T.isinstance PyProof.Rows.boot_isinstance (pa_cons (pv 0) (pa_cons (pe_bltn (v := .ty "int") (by rfl) T.int PyProof.Rows.boot_int rfl) pa_nil))) (pe_one (pe_not (pe_callB call_isi (by rfl) T.isinstance PyProof.Rows.boot_isinstance (pa_cons (pv 0) (pa_cons (pe_bltn (v := .ty "bool") (by rfl) T.bool PyProof.Rows.boot_bool rfl) pa_nil)))))))), whole_read hx q⟩
end
end K05
namespace K05
open PySem L2 Ur
section
variable {P : Program} {w : World} {K :
      PySem.W.Frag} {mg : Str → Option Value} {base : Heap}
abbrev n_wholes_fit : List Str := ["value", "number"]
abbrev p_wholes_fit : List Str := ["value"]
theorem sc_wholes_fit : FnScope n_wholes_fit p_wholes_fit (defScope sWholes) := ⟨rfl, rfl, rfl, by decide +kernel, rfl, by decide +kernel, by decide +kernel⟩
/-- told of a value of any kind -/
def spTold (K : PySem.W.Frag) (g : List V → Bool) : Sp := fun vs H Q _ => ∃ (x : V) (k : Kd) (xs : List V), vs = [x] ∧ Arg K H x k xs ∧ ∀ H' : Hp, Same H H' → Q (.bl (k == .tup && g xs)) H'
theorem kd_ne {k : Kd} {b : Bool} (c : ¬ (k == Kd.tup) = true) : (k == Kd.tup && b) = false := by
  cases h : (k == Kd.tup) with
  | true => exact absurd h c
  | false => rfl
theorem ok_wholes {f : Addr} {fd : FuncData} (F : Fun K "wholes_fit" "wholes_fit" sWholes f fd) (T : Bl mg) (H_is_whole : Has P w K mg base "is_whole" n_is_whole 1 (spWhole K)) : FnOk P w K mg base CX0 2 f fd p_wholes_fit (spTold K fun xs => xs.all wh) := by
  refine F.ok sc_wholes_fit (fun vs H Q E h => ?_) (fun cdv A outer s H vs Q E hr h => ?_)
  · obtain ⟨x, k, xs, rfl, _⟩ := h
    rfl
  · obtain ⟨x, k, xs, rfl, A1, q⟩ := h
    refine ⟨_, (pss_one (ps_ret (pe_and (pe_callB call_isi (by rfl) T.isinstance PyProof.Rows.boot_isinstance (pa_cons (pv 0) (pa_cons (pe_bltn (v := .ty "tuple") (by rfl) T.tuple PyProof.Rows.boot_tuple rfl) pa_nil))) (pe_one (pe_callB (cr_all rfl) (by rfl) T.all PyProof.Rows.boot_all (pa_cons (pe_lc (own := [("number", 1)]) (g := gName 1) (tt := tYes) rfl sc_wholes_fit.nd (pi_tup (pv 0)) (blkOk_by (N := n_wholes_fit) (sc := defScope sWholes) (by decide +kernel)) (fun _ _ _ _ _ => pg_name (i := 1) sc_wholes_fit.nd rfl (Or.inl rfl)) (fun _ _ _ _ _ => pts_nil) (fun _ _ _ _ _ => (pe_has H_is_whole (hr.mono (by decide)) (by rfl) (pa_cons (pv 1) pa_nil)))) pa_nil)))))), ?_⟩
    refine ⟨x, rfl, x, _, _, _, _, rfl, .ty "tuple", A1.ty, kit_ty (kd_tup k), _, rfl, ?_⟩
    refine ite2 (fun c
          => ?_) (fun c => ?_)
    · obtain ⟨a, rfl, hS, hl, hk, hb⟩ := A1.its (by simpa using c)
      unfold tCB tCons tNil
      dsimp only
      refine lcT (K := K) (a := a) (xs := xs) (fun i y => ∃ z, xs[i]? = some z ∧ y = .bl (wh z)) (fun R r => ⟨_, rfl, r⟩) hS (by omega) (fun x => rfl) (fun i z H3 hi sm Q' q' => ?_) (fun D ys H2 hD sm hy e1 e2 => ?_)
      · obtain ⟨l, hl⟩ := (hk z (List.mem_of_getElem? hi)).kd
        exact ⟨z, rfl, z, l, rfl, ofKd_same sm hl, q' _ _ ⟨z, hi, rfl⟩ (Same.refl _)⟩
      · have ey : ys = (xs.map wh).map V.bl := by
          apply List.ext_getElem?
          intro i
          cases h : ys[i]? with
          | none =>
            have := List.getElem?_eq_none_iff.mp h
            rw [List.getElem?_eq_none (by simp at e1 ⊢; omega)]
          | some y =>
            obtain ⟨z, hz, rfl⟩ := e2 i y h
            simp [hz]
        rw [ey] at hy
        refine ⟨D, xs.map wh, rfl, SqL.of hy, ?_⟩
        have e3 : (xs.map wh).all id = (k == Kd.tup && xs.all wh) := by
          rw [c, List.all_map]
          rfl
        rw [e3]
        exact q H2 sm
    · have := q H (Same.refl H)
      rw [kd_ne c] at this
      exact this
abbrev n_value : List Str := ["value"]
theorem sc_point : FnScope n_value n_value (defScope sPointF) := ⟨rfl, rfl, rfl, by decide +kernel, rfl, by decide +kernel, by decide +kernel⟩
/-- where the first test says no -/
theorem no_of {k : Kd} {xs : List V} {g : List V → Bool} (hg : ∀ {xs : List V}, g xs = true → xs.all wh = true) (c : ¬ (k == Kd.tup && (fun xs => xs.all wh) xs) = true) : (k == .tup && g xs) = false := by
  cases h : (k == Kd.tup) with
  | false => rfl
  | true =>
    rw [h, Bool.true_and] at c
    rw [of_wh hg (by simpa using c)]
    rfl
theorem ok_pointF {f : Addr} {fd : FuncData} (F : Fun K "point_fits" "point_fits" sPointF f fd) (T : Bl mg) (H_common_divisor : Has P w K mg base "common_divisor" p_common_divisor 1 (spCom K)) (H_wholes_fit : Has P w K mg base "wholes_fit" p_wholes_fit 2 (spTold K fun xs => xs.all wh)) : FnOk P w K mg base CX0 3 f fd n_value (spTold K isPt) := by
  refine F.ok sc_point (fun vs H Q E h => ?_) (fun cdv A outer s H vs Q E hr h => ?_)
  · obtain ⟨x, k, xs, rfl, _⟩ := h
    rfl
  · obtain ⟨x, k, xs, rfl, A1, q⟩ := h
    refine ⟨_, (pss_one (ps_ret (pe_and (pe_has H_wholes_fit (hr.mono (by decide)) (by rfl) (pa_cons (pv 0) pa_nil)) (pe_and (pe_cmpR op_eq (pe_callB call_len_seq (by rfl) T.len PySem.boot_len (pa_cons (pv 0) pa_nil)) pe_int (nomark _)) (pe_and (pe_cmpR op_gt (pe_ix ix_tup (pv 0) pe_int (fun _ _ => rfl)) pe_int (nomark _)) (pe_one (pe_cmpR op_eq (pe_has H_common_divisor (hr.mono (by decide)) (by rfl) (pa_cons (pv 0) pa_nil)) pe_int (nomark _)))))))), ?_⟩
    refine ⟨x, rfl, x, k, xs, rfl, A1, fun H1 s1 => ⟨_, rfl, ?_⟩⟩
    have no : (k == .tup && isPt xs) = false → Q (.bl false) H1 := fun e => by
      have := q H1 s1
      rw [e] at this
      exact this
    refine ite2 (fun c => ?_) (fun c => no (no_of pt_wh c))
    rw [Bool.and_eq_true] at c
    obtain ⟨a, rfl, hS, _, _, _⟩ := (A1.same s1).its (by simpa using c.1)
    obtain ⟨ns, rfl⟩ := all_wh c.2
    refine ⟨_, rfl, a, _, rfl, Or.inr hS, rfl, _, rfl, ?_⟩
    refine ite2 (fun c2 => ?_) (fun c2 => no (by rw [pt_no (not_len (n := 3) c2), Bool.and_false]))
    match ns, ns_len (n := 3) c2, q, no, hS with
    | [n, m, l], _, q, no, hS =>
      refine ⟨_, rfl, a, _, 2, _, rfl, rfl, hS, rfl, _, _, rfl, rfl, _, rfl, ?_⟩
      refine ite2 (fun c3 => ?_) (fun c3 => ?_)
      · refine ⟨_, rfl, a, [n, m, l], rfl, hS, rfl, ?_⟩
        have := q H1 s1
        have e : (k == Kd.tup && isPt ([n, m, l].map V.int)) = decide (V.int (gAll [n, m, l] : Nat) = V.int 1) := by
          rw [c.1]
          show (decide (0 < l) && decide (Nat.gcd (Nat.gcd n.natAbs m.natAbs) l.natAbs = 1)) = _
          rw [c3, Bool.true_and]
          show _ = decide (V.int ((Nat.gcd (Nat.gcd (Nat.gcd 0 n.natAbs) m.natAbs) l.natAbs : Nat) : Int) = V.int 1)
          rw [Nat.gcd_zero_left]
          refine decide_eq_decide.mpr ⟨fun e => by rw [e]; rfl, fun e => ?_⟩
          have := V.int.inj e
          omega
        rw [e] at this
        exact this
      · refine no ?_
        rw [c.1]
        show (decide (0 < l) && _) = false
        rw [Bool.eq_false_iff.mpr c3]
        rfl
/-! ### the module's own -/
theorem pass_read {x : V} {k : Kd} {xs : List V} {g : List V → Bool} {H : Hp} {Q : VK} (A1 : Arg K H x k xs) (q : ∀ H' : Hp, Same H H' → Q (.bl (k == .tup && g xs)) H') :
    tRet (tCall (spTold K g) [] E0 (tCons (tVar 0) tNil)) { nx := fun _ H' => Q .non H', rt := Q } [some x] H := ⟨x, rfl, x, k, xs, rfl, A1, q⟩
end
end K05
namespace K05
open PySem L2 Ur
/-! ### plain -/
theorem thin_one {ns : List Int} (h : gAll ns = 1) : thin ns = ns := by
  unfold thin
  rw [if_pos (by omega)]
theorem div_ne {g : Nat} {z : Int} (h2 : 2 ≤ g) (hd : g ∣ z.natAbs) (hz : z ≠ 0) : z / (g : Int) ≠ z := by
  intro e
  obtain ⟨q, hq⟩ := hd
  have hdv : (g : Int) ∣ z := Int.ofNat_dvd_left.mpr ⟨q, hq⟩
  have h3 := Int.ediv_mul_cancel hdv
  rw [e] at h3
  have h4 : z * (g : Int) = z * 1 := by rw [h3, Int.mul_one]
  have h5 := Int.eq_of_mul_eq_mul_left hz h4
  omega
theorem gAll_two (a b : Int) : gAll [a, b] = Nat.gcd a.natAbs b.natAbs := by
  show Nat.gcd (Nat.gcd 0 a.natAbs) b.natAbs = _
  rw [Nat.gcd_zero_left]
theorem gAll_three (a b c : Int) : gAll [a, b, c] = Nat.gcd (Nat.gcd a.natAbs b.natAbs) c.natAbs := by
  show Nat.gcd (Nat.gcd (Nat.gcd 0 a.natAbs) b.natAbs) c.natAbs = _
  rw [Nat.gcd_zero_left]
theorem spot_is {x y z : Int} (hz : 0 < z) : (thin [x, y, z] = [x, y, z]) ↔ Nat.gcd (Nat.gcd x.natAbs y.natAbs) z.natAbs = 1 := by
  have g0 : 0 < gAll [x, y, z] := by
    rw [gAll_three]
    exact Nat.gcd_pos_of_pos_right _ (by omega)
  constructor
  · intro e
    rw [← gAll_three]
    refine Classical.byContradiction fun h1 => ?_
    unfold thin at e
    rw [if_neg (by omega)] at e
    have e3 : z / ((gAll [x, y, z] : Nat) : Int) = z := by
      have := congrArg (fun l => l[2]?) e
      exact Option.some.inj this
    refine div_ne (by omega) ?_ (by omega) e3
    rw [gAll_three]
    exact Nat.gcd_dvd_right _ _
  · intro h
    exact thin_one (by rw [gAll_three]; exact h)
theorem aim_is {x y : Int} (h0 : ¬ (x = 0 ∧ y = 0)) : (thin [x, y] = [x, y]) ↔ Nat.gcd x.natAbs y.natAbs = 1 := by
  have g0 : 0 < gAll [x, y] := by
    rw [gAll_two]
    rcases Nat.eq_zero_or_pos (Nat.gcd x.natAbs y.natAbs) with h | h
    · rw [Nat.gcd_eq_zero_iff] at h
      exact absurd ⟨by omega, by omega⟩ h0
    · exact h
  constructor
  · intro e
    rw [← gAll_two]
    refine Classical.byContradiction fun h1 => ?_
    unfold thin at e
    rw [if_neg (by omega)] at e
    have e1 : x / ((gAll [x, y] : Nat) : Int) = x := Option.some.inj (congrArg (fun l => l[0]?) e)
    have e2 : y / ((gAll [x, y] : Nat) : Int) = y := Option.some.inj (congrArg (fun l => l[1]?) e)
    by_cases hx : x = 0
    · refine div_ne (by omega) ?_ (fun hy => h0 ⟨hx, hy⟩) e2
      rw [gAll_two]
      exact Nat.gcd_dvd_right _ _
    · refine div_ne (by omega) ?_ hx e1
      rw [gAll_two]
      exact Nat.gcd_dvd_left _ _
  · intro h
    exact thin_one (by rw [gAll_two]; exact h)
section
variable {P : Program} {w : World} {K :
      PySem.W.Frag} {mg : Str → Option Value} {base : Heap}
def areB (k : Kd) (xs : List V) (m : Nat) : Bool := k == .tup && (decide (xs.length = m) && xs.all wh)
def spAre (K : PySem.W.Frag) : Sp := fun vs H Q _ => ∃ (x : V) (k : Kd) (xs : List V) (m : Nat), vs = [x, .int (m : Int)] ∧ Arg K H x k xs ∧ ∀ H' : Hp, Same H H' → Q (.bl (areB k xs m)) H'
theorem areB_yes {k : Kd} {xs : List V} {m : Nat} (h : areB k xs m = true) : k = .tup ∧ xs.length = m ∧ ∃ ns : List Int, xs = ns.map V.int := by
  unfold areB at h
  rw [Bool.and_eq_true, Bool.and_eq_true] at h
  exact ⟨by simpa using h.1, of_decide_eq_true h.2.1, all_wh h.2.2⟩
theorem areB_no {k : Kd} {xs : List V} {m : Nat} {g : List V → Bool} (h : ¬ areB k xs m = true) (hw : g xs = true → xs.length = m ∧ xs.all wh = true) : (k == .tup && g xs) = false := by
  cases hk : (k == Kd.tup) with
  | false => rfl
  | true =>
    cases hg : g xs with
    | false => rfl
    | true =>
      obtain ⟨h1, h2⟩ := hw hg
      refine absurd ?_ h
      unfold areB
      rw [hk, decide_eq_true h1, h2]
      rfl
theorem fr_len : ∀ {xs : List V}, isFr xs = true → xs.length = 2 ∧ xs.all wh = true
  | [.int n, .int m], _ => ⟨rfl, rfl⟩
theorem dr_len : ∀ {xs : List V}, isDr xs = true → xs.length = 2 ∧ xs.all wh = true
  | [.int n, .int m], _ => ⟨rfl, rfl⟩
theorem pt_len : ∀ {xs : List V}, isPt xs = true → xs.length = 3 ∧ xs.all wh = true
  | [.int x, .int y, .int w], _ => ⟨rfl, rfl⟩
abbrev n_lthing : List Str := ["_law_thing_here"]
theorem mem_at {ns : List Int} {i : Nat} {z : Int} (h : ns[i]? = some z) : V.int z ∈ ns.map V.int := List.mem_map_of_mem (List.mem_of_getElem? h)
end
end K05
namespace K05
open PySem L2 Ur
section
variable {P : Program} {w : World} {K :
      PySem.W.Frag} {mg : Str → Option Value} {base : Heap}
abbrev p_law_any : List Str := ["_law_urn_here", "_law_some"]
theorem sc_law_any : FnScope p_law_any p_law_any (defScope sAny) := ⟨rfl, rfl, rfl, by decide +kernel, rfl, by decide +kernel, by decide +kernel⟩
def spAny : Sp := fun vs H Q _ => ∃ (u l : Addr) (xs : List V), vs = [.ref u, .ref l] ∧ H u = some (UrnO u) ∧ H l = some (.lst xs) ∧ 0 < xs.length ∧ xs.length ≤ 1000 ∧ ∀ (x : V) (H' : Hp), x ∈ xs → Same H H' → Q x H'
theorem ok_any {f : Addr} {fd : FuncData} (F : Fun K "_law_any" "_law_any" sAny f fd) (T : Bl mg) (H_law_pull : Has P w K mg base "_law_pull" ["_law_urn_here", "_law_many"] 1 spPull) : FnOk P w K mg base CX0 2 f fd p_law_any spAny := by
  refine F.ok sc_law_any (fun vs H Q E h => ?_) (fun cdv A outer s H vs Q E hr h => ?_)
  · obtain ⟨u, l, xs, rfl, _⟩ := h
    rfl
  · obtain ⟨u, l, xs, rfl, hu, hl, h0, h1, q⟩ := h
    refine ⟨_, (pss_one (ps_ret (pe_ix ix_list (pv 1) (pe_has H_law_pull (hr.mono (by decide)) (by rfl) (pa_cons (pv 0) (pa_cons (pe_callB call_len_seq (by rfl) T.len PySem.boot_len (pa_cons (pv 1) pa_nil)) pa_nil))) (fun _ _ => rfl)))), ?_⟩
    refine ⟨_, rfl, _, rfl, _, rfl, l, xs, rfl, Or.inl (SqL.of hl), u, _, rfl, hu, by omega, by omega, fun r H1 r0 r1 s1 => ?_⟩
    obtain ⟨j, rfl⟩ := Int.eq_ofNat_of_zero_le r0
    have hj : j < xs.length := by omega
    exact ⟨l, xs, _, _, rfl, rfl, SqL.of (s1 _ _ hl), atI_nat (List.getElem?_eq_getElem hj), q _ H1 (List.getElem_mem hj) s1⟩
abbrev p_law_num : List Str := ["_law_urn_here", "_law_high"]
theorem sc_law_num : FnScope p_law_num p_law_num (defScope sNum) := ⟨rfl, rfl, rfl, by decide +kernel, rfl, by decide +kernel, by decide +kernel⟩
def spNum : Sp := fun vs H Q _ => ∃ (u : Addr) (m : Int), vs = [.ref u, .int m] ∧ H u = some (UrnO u) ∧ 0 ≤ m ∧ m ≤ 500000000 ∧ ∀ (r : Int) (H' : Hp), -m ≤ r → r ≤ m → Same H H' → Q (.int r) H'
theorem ok_num {f : Addr} {fd : FuncData} (F : Fun K "_law_num" "_law_num" sNum f fd) (H_law_pull : Has P w K mg base "_law_pull" ["_law_urn_here", "_law_many"] 1 spPull) : FnOk P w K mg base CX0 2 f fd p_law_num spNum := by
  refine F.ok sc_law_num (fun vs H Q E h => ?_) (fun cdv A outer s H vs Q E hr h => ?_)
  · obtain ⟨u, m, rfl, _⟩ := h
    rfl
  · obtain ⟨u, m, rfl, hu, h0, h1, q⟩ := h
    refine ⟨_, (pss_one (ps_ret (pe_op op_sub (pe_has H_law_pull (hr.mono (by decide)) (by rfl) (pa_cons (pv 0) (pa_cons (pe_op op_add (pe_op op_mul pe_int (pv 1)) pe_int) pa_nil))) (pv 1)))), ?_⟩
    refine ⟨_, rfl, _, rfl, _, _, rfl, rfl, Or.inl ⟨by decide, by decide⟩, _, _, rfl, rfl, u, _, rfl, hu, by omega, by omega, fun r H1 r0 r1 s1 => ?_⟩
    exact ⟨_, rfl, _, _, rfl, rfl, q _ H1 (by omega) (by omega) s1⟩
abbrev p_law_laps : List Str := ["_law_script"]
theorem sc_law_laps : FnScope p_law_laps p_law_laps (defScope sLaps) := ⟨rfl, rfl, rfl, by decide +kernel, rfl, by decide +kernel, by decide +kernel⟩
def spLaps (K : PySem.W.Frag) : Sp := fun vs H Q _ => ∃ (a : Addr) (xs : List V), vs = [.ref a] ∧ SqL K H a xs ∧ ∀ n : Int, 2 ≤ n → n ≤ 3 → Q (.int n) H
theorem ok_laps {f : Addr} {fd : FuncData} (F : Fun K "_law_laps" "_law_laps" sLaps f fd) (T : Bl mg) : FnOk P w K mg base CX0 1 f fd p_law_laps (spLaps K) := by
  refine F.ok sc_law_laps (fun vs H Q E h => ?_) (fun cdv A outer s H vs Q E hr h => ?_)
  · obtain ⟨a, xs, rfl, _⟩ := h
    rfl
  · obtain ⟨a, xs, rfl, hS, q⟩ := h
    refine ⟨_, (pss_one (ps_ret (pe_callB (call_max2 rfl) (by rfl) T.max PyProof.Rows.boot_max (pa_cons pe_int (pa_cons (pe_callB (call_min2 rfl) (by rfl) T.min PyProof.Rows.boot_min (pa_cons (pe_callB call_len_seq (by rfl) T.len PySem.boot_len (pa_cons (pv 0) pa_nil)) (pa_cons pe_int pa_nil))) pa_nil))))), ?_⟩
    refine ⟨_, rfl, a, xs, rfl, Or.inl hS, _, _, rfl, _, _, rfl, ?_⟩
    exact q _ (by split <;> split at * <;> omega) (by split <;> split at * <;> omega)
/-! ### what stands in the row -/
/-- the items of a row as far as they are known -/
structure Row (K : PySem.W.Frag) (H : Hp) (zs : List V) : Prop where
  few : zs.length ≤ 5
  its : ∀ y ∈ zs, It K H y
  big : ∀ i, V.int i ∈ zs → i.natAbs < 2 ^ 9000
theorem Row.same {K : PySem.W.Frag} {H H' : Hp} {zs : List V} (s : Same H H') (r : Row K H zs) : Row K H' zs := ⟨r.few, fun y hy => (r.its y hy).same s, r.big⟩
theorem big_of {i : Int} (h : i.natAbs ≤ 10 ^ 13) : i.natAbs < 2 ^ 9000 :=
  Nat.lt_of_le_of_lt h (Nat.lt_of_lt_of_le (by decide : 10 ^ 13 < 2 ^ 50) (Nat.pow_le_pow_right (by decide) (by decide)))
theorem it_int {K : PySem.W.Frag} {H : Hp} (i : Int) : It K H (.int i) := ⟨⟨.int, .base (.int i)⟩, .int i, .int i, rfl, Nat.zero_le _⟩
theorem it_bl {K : PySem.W.Frag} {H : Hp} (b : Bool) : It K H (.bl b) := ⟨⟨.bool, .base (.bl b)⟩, .bool b, .bl b, rfl, Nat.zero_le _⟩
theorem it_non {K : PySem.W.Frag} {H : Hp} : It K H .non := ⟨⟨.non, .base .non⟩, .none, .non, rfl, Nat.zero_le _⟩
theorem it_str {K : PySem.W.Frag} {H : Hp} {x : Str} (h : PyData.canLay0 (.str x) = true) : It K H (.str x) := ⟨⟨.str, .base (.str x)⟩, .str x, .str x, h, Nat.zero_le _⟩
theorem it_tup {K : PySem.W.Frag} {H : Hp} {a : Addr} {ns : List Int} (h : SqT K H a (ns.map V.int)) : It K H (.ref a) :=
  ⟨⟨.tup, tup_kd h⟩, _, dp_ints h, lay_ints ns, by show PyData.depthAll _ + 1 ≤ 8; rw [depth_ints]; decide⟩
theorem row_ints {K : PySem.W.Frag} {H : Hp} {ns : List Int} (hl : ns.length ≤ 5) (hb : ∀ n ∈ ns, n.natAbs ≤ 10 ^ 13) : Row K H (ns.map V.int) := by
  refine ⟨by simpa using hl, fun y hy => ?_, fun i hi => ?_⟩
  · obtain ⟨n, _, rfl⟩ := List.mem_map.mp hy
    exact it_int n
  · obtain ⟨n, hn, e⟩ := List.mem_map.mp hi
    cases e
    exact big_of (hb _ hn)
theorem arg_tup {K : PySem.W.Frag} {H : Hp} {a : Addr} {zs : List V} (h : SqT K H a zs) (r : Row K H zs) : Arg K H (.ref a) .tup zs :=
  ⟨tup_kd h, fun _ => ⟨a, rfl, h, Nat.le_trans r.few (by decide), r.its, r.big⟩⟩
theorem arg_of {K : PySem.W.Frag} {H : Hp} {x : V} {k : Kd} (h : OfKd K H x k) (hk : k ≠ .tup) : Arg K H x k [] := ⟨h, fun e => absurd e hk⟩
theorem ints_of {ys : List V} {m : Int} (h : ∀ (i : Nat) (y : V), ys[i]? = some y → ∃ z : Int, y = .int z ∧ -m ≤ z ∧ z ≤ m) : ∃ ns : List Int, ys = ns.map V.int ∧ ∀ n ∈ ns, -m ≤ n ∧ n ≤ m := by
  induction ys with
  | nil => exact ⟨[], rfl, fun _ h => nomatch h⟩
  | cons y r ih =>
    obtain ⟨ns, rfl, h2⟩ := ih fun i y hi => h (i + 1) y (by simpa using hi)
    obtain ⟨z, rfl, hz⟩ := h 0 y rfl
    refine ⟨z :: ns, rfl, fun n hn => ?_⟩
    rcases List.mem_cons.mp hn with rfl | hn
    · exact hz
    · exact h2 n hn
/-- an int out of a written menu -/
theorem menu {x : V} {l : List Int} {lo hi : Int} (h : x ∈ l.map V.int) (hb : ∀ i ∈ l, lo ≤ i ∧ i ≤ hi) : ∃ i, x = .int i ∧ lo ≤ i ∧ i ≤ hi := by
  obtain ⟨i, h1, rfl⟩ := List.mem_map.mp h
  exact ⟨i, rfl, hb i h1⟩
/-- behind the first test: where the row stands, what is known of its items -/
def Mid1 (K : PySem.W.Frag) (H : Hp) (u : Addr) (h kd fc : Int) (σ : L2.St) (H' : Hp) : Prop := ∃ (D : Addr) (zs : List V) (v w : Option V), σ = [some (.ref u), some (.int h), some (.ref D), some (.int kd), some (.int fc), v, w] ∧ Same H H' ∧ H D = none ∧ H' D = some (.lst zs) ∧ Row K H' zs ∧
  (kd ≠ 0 → ∃ ns : List Int, zs = ns.map V.int ∧ ∀ n ∈ ns, -1000000 ≤ n ∧ n ≤ 1000000)
def Mid2 (K : PySem.W.Frag) (H : Hp) (u : Addr) (h kd fc : Int) (σ : L2.St) (H' : Hp) : Prop := ∃ (D : Addr) (zs : List V) (v w : Option V), σ = [some (.ref u), some (.int h), some (.ref D), some (.int kd), some (.int fc), v, w] ∧ Same H H' ∧ H' D = some (.lst zs) ∧ Row K H' zs
/-! ### thing -/
abbrev n_law_thing : List Str := ["_law_urn_here", "_law_high", "_law_row", "_law_kind", "_law_factor", "_law_step", "_law_number"]
abbrev p_law_thing : List Str := ["_law_urn_here"]
def spThing (K : PySem.W.Frag) : Sp := fun vs H Q _ => ∃ u : Addr, vs = [.ref u] ∧ H u = some (UrnO u) ∧ ∀ (x : V) (k : Kd) (xs : List V) (H' : Hp), Same H H' → Arg K H' x k xs → Q x H'
end
end K05
namespace K05
open PySem L2 Ur
/-! ### points as lists of three ints, plain -/
theorem thin_eq {ns : List Int} (h : 0 < gAll ns) : thin ns = ns.map fun n => n / (gAll ns : Int) := by
  unfold thin
  split
  · have : gAll ns = 1 := by omega
    rw [this]
    show ns = ns.map fun n => n / 1
    simp
  · rfl
theorem gAll_2 (a b : Int) : gAll [a, b] = Nat.gcd a.natAbs b.natAbs := by
  show Nat.gcd (Nat.gcd 0 a.natAbs) b.natAbs = _
  rw [Nat.gcd_zero_left]
theorem gAll_3 (a b c : Int) : gAll [a, b, c] = Nat.gcd (Nat.gcd a.natAbs b.natAbs) c.natAbs := by
  show Nat.gcd (Nat.gcd (Nat.gcd 0 a.natAbs) b.natAbs) c.natAbs = _
  rw [Nat.gcd_zero_left]
theorem g3_pos {x y w : Int} (h : 0 < w) : 0 < gAll [x, y, w] := by
  rw [gAll_3]
  exact Nat.gcd_pos_of_pos_right _ (by omega)
theorem g2_pos {x w : Int} (h : 0 < w) : 0 < gAll [x, w] := by
  rw [gAll_2]
  exact Nat.gcd_pos_of_pos_right _ (by omega)
theorem ex_div {g : Nat} {x : Int} (h : g ∣ x.natAbs) : ∃ q : Int, x = (g : Int) * q := Int.ofNat_dvd_left.mpr h
/-- thin, by what it is multiplied with -/
theorem thin3 {x y w : Int} (h : 0 < w) : ∃ (g p q r : Int), 0 < g ∧ x = g * p ∧ y = g * q ∧ w = g * r ∧ thin [x, y, w] = [p, q, r] ∧ Nat.gcd (Nat.gcd p.natAbs q.natAbs) r.natAbs = 1 := by
  have hg := g3_pos (x := x) (y := y) h
  have e := thin_eq hg
  obtain ⟨p, hp⟩ := ex_div (g := gAll [x, y, w]) (x := x) (by rw [gAll_3]; exact Nat.dvd_trans (Nat.gcd_dvd_left _ _) (Nat.gcd_dvd_left _ _))
  obtain ⟨q, hq⟩ := ex_div (g := gAll [x, y, w]) (x := y) (by rw [gAll_3]; exact Nat.dvd_trans (Nat.gcd_dvd_left _ _) (Nat.gcd_dvd_right _ _))
  obtain ⟨r, hr⟩ := ex_div (g := gAll [x, y, w]) (x := w) (by rw [gAll_3]; exact Nat.gcd_dvd_right _ _)
  have h3 := gAll_3 x y w
  generalize gAll [x, y, w] = g at *
  have hg' : (g : Int) ≠ 0 := by omega
  refine ⟨g, p, q, r, by omega, hp, hq, hr, ?_, ?_⟩
  · rw [e]
    show [x / (g : Int), y / (g : Int), w / (g : Int)] = _
    rw [hp, hq, hr, Int.mul_ediv_cancel_left _ hg', Int.mul_ediv_cancel_left _ hg', Int.mul_ediv_cancel_left _ hg']
  · rw [hp, hq, hr, Int.natAbs_mul, Int.natAbs_mul, Int.natAbs_mul, Int.natAbs_natCast, Nat.gcd_mul_left, Nat.gcd_mul_left] at h3
    have : g * 1 = g * Nat.gcd (Nat.gcd p.natAbs q.natAbs) r.natAbs := by rw [Nat.mul_one]; exact h3
    exact (Nat.eq_of_mul_eq_mul_left hg this).symm
theorem thin2 {x w : Int} (h : 0 < w) : ∃ (g p r : Int), 0 < g ∧ x = g * p ∧ w = g * r ∧ thin [x, w] = [p, r] ∧ Nat.gcd p.natAbs r.natAbs = 1 := by
  have hg := g2_pos (x := x) h
  have e := thin_eq hg
  obtain ⟨p, hp⟩ := ex_div (g := gAll [x, w]) (x := x) (by rw [gAll_2]; exact Nat.gcd_dvd_left _ _)
  obtain ⟨r, hr⟩ := ex_div (g := gAll [x, w]) (x := w) (by rw [gAll_2]; exact Nat.gcd_dvd_right _ _)
  have h3 := gAll_2 x w
  generalize gAll [x, w] = g at *
  have hg' : (g : Int) ≠ 0 := by omega
  refine ⟨g, p, r, by omega, hp, hr, ?_, ?_⟩
  · rw [e]
    show [x / (g : Int), w / (g : Int)] = _
    rw [hp, hr, Int.mul_ediv_cancel_left _ hg', Int.mul_ediv_cancel_left _ hg']
  · rw [hp, hr, Int.natAbs_mul, Int.natAbs_mul, Int.natAbs_natCast, Nat.gcd_mul_left] at h3
    have : g * 1 = g * Nat.gcd p.natAbs r.natAbs := by rw [Nat.mul_one]; exact h3
    exact (Nat.eq_of_mul_eq_mul_left hg this).symm
theorem pos_of {g r : Int} (hg : 0 < g) (h : 0 < g * r) : 0 < r := Int.pos_of_mul_pos_right h hg
theorem abs_le {g p : Int} {n : Nat} (hg : 0 < g) (h : (g * p).natAbs ≤ n) : p.natAbs ≤ n := by
  rw [Int.natAbs_mul] at h
  have : 1 * p.natAbs ≤ g.natAbs * p.natAbs := Nat.mul_le_mul_right _ (by omega)
  omega
/-- a point's three numbers: reduced, the last above 0, none above n -/
structure PtL (n : Nat) (a : List Int) (x y w : Int) : Prop where
  eq : a = [x, y, w]
  pos : 0 < w
  red : Nat.gcd (Nat.gcd x.natAbs y.natAbs) w.natAbs = 1
  bx : x.natAbs ≤ n
  bby : y.natAbs ≤ n
  bw : w.natAbs ≤ n
structure FrL (n : Nat) (a : List Int) (t b : Int) : Prop where
  eq : a = [t, b]
  pos : 0 < b
  red : Nat.gcd t.natAbs b.natAbs = 1
  bt : t.natAbs ≤ n
  bb : b.natAbs ≤ n
theorem pt_thin {x y w : Int} {n : Nat} (h : 0 < w) (hx : x.natAbs ≤ n) (hy : y.natAbs ≤ n) (hw : w.natAbs ≤ n) : ∃ (g p q r : Int), 0 < g ∧ x = g * p ∧ y = g * q ∧ w = g * r ∧ PtL n (thin [x, y, w]) p q r := by
  obtain ⟨g, p, q, r, g0, e1, e2, e3, e4, e5⟩ := thin3 (x := x) (y := y) h
  exact ⟨g, p, q, r, g0, e1, e2, e3, ⟨e4, pos_of g0 (e3 ▸ h), e5, abs_le g0 (e1 ▸ hx), abs_le g0 (e2 ▸ hy), abs_le g0 (e3 ▸ hw)⟩⟩
theorem fr_thin {x w : Int} {n : Nat} (h : 0 < w) (hx : x.natAbs ≤ n) (hw : w.natAbs ≤ n) : ∃ (g p r : Int), 0 < g ∧ x = g * p ∧ w = g * r ∧ FrL n (thin [x, w]) p r := by
  obtain ⟨g, p, r, g0, e1, e3, e4, e5⟩ := thin2 (x := x) h
  exact ⟨g, p, r, g0, e1, e3, ⟨e4, pos_of g0 (e3 ▸ h), e5, abs_le g0 (e1 ▸ hx), abs_le g0 (e3 ▸ hw)⟩⟩
/-- a point times a number above 0, made thin, is the point -/
theorem thin_mul {x y w k : Int} (hk : 0 < k) (hw : 0 < w) (h : Nat.gcd (Nat.gcd x.natAbs y.natAbs) w.natAbs = 1) : thin [k * x, k * y, k * w] = [x, y, w] := by
  have hg : gAll [k * x, k * y, k * w] = k.natAbs := by
    rw [gAll_3, Int.natAbs_mul, Int.natAbs_mul, Int.natAbs_mul, Nat.gcd_mul_left, Nat.gcd_mul_left, h, Nat.mul_one]
  rw [thin_eq (by rw [hg]; omega), hg]
  have ek : ((k.natAbs : Nat) : Int) = k := by omega
  have k0 : k ≠ 0 := by omega
  rw [ek]
  show [k * x / k, k * y / k, k * w / k] = _
  rw [Int.mul_ediv_cancel_left _ k0, Int.mul_ediv_cancel_left _ k0, Int.mul_ediv_cancel_left _ k0]
def sumL : List Int → List Int → List Int
  | [x, y, w], [u, v, z] => thin [x * z + u * w, y * z + v * w, w * z]
  | _, _ => []
def wayL : List Int → List Int → List Int
  | [x, y, w], [u, v, z] => thin [u * w - x * z, v * w - y * z, w * z]
  | _, _ => []
def byL : List Int → List Int → List Int
  | [x, y, w], [n, m] => thin [x * n, y * n, w * m]
  | _, _ => []
def innL : List Int → List Int → List Int
  | [x, y, w], [u, v, z] => thin [x * u + y * v, w * z]
  | _, _ => []
def crsL : List Int → List Int → List Int
  | [x, y, w], [u, v, z] => thin [x * v - y * u, w * z]
  | _, _ => []
def qtrL : List Int → List Int
  | [x, y, w] => [-y, x, w]
  | _ => []
def sgn (n : Int) : Int := if 0 < n then 1 else if n < 0 then -1 else 0
def sidL : List Int → List Int → List Int → Int
  | [x, y, w], [u, v, z], [p, q, r] => sgn ((x * v - u * y) * r - (v * w - y * z) * p - (x * z - u * w) * q)
  | _, _, _ => 0
theorem mulb {x y : Int} {n m : Nat} (hx : x.natAbs ≤ n) (hy : y.natAbs ≤ m) : (x * y).natAbs ≤ n * m := by
  rw [Int.natAbs_mul]
  exact Nat.mul_le_mul hx hy
theorem addb {x y : Int} {n m : Nat} (hx : x.natAbs ≤ n) (hy : y.natAbs ≤ m) : (x + y).natAbs ≤ n + m := by omega
theorem subb {x y : Int} {n m : Nat} (hx : x.natAbs ≤ n) (hy : y.natAbs ≤ m) : (x - y).natAbs ≤ n + m := by omega
theorem pt_sum {a b : List Int} {x y w u v z : Int} {n m : Nat} (A : PtL n a x y w) (B : PtL m b u v z) : ∃ (g p q r : Int), 0 < g ∧ x * z + u * w = g * p ∧ y * z + v * w = g * q ∧ w * z = g * r ∧ PtL (n * m + m * n) (sumL a b) p q r := by
  have ea := A.eq
  have eb := B.eq
  subst ea eb
  exact pt_thin (Int.mul_pos A.pos B.pos) (addb (mulb A.bx B.bw) (mulb B.bx A.bw)) (addb (mulb A.bby B.bw) (mulb B.bby A.bw)) (Nat.le_trans (mulb A.bw B.bw) (Nat.le_add_right _ _))
theorem pt_way {a b : List Int} {x y w u v z : Int} {n m : Nat} (A : PtL n a x y w) (B : PtL m b u v z) : ∃ (g p q r : Int), 0 < g ∧ u * w - x * z = g * p ∧ v * w - y * z = g * q ∧ w * z = g * r ∧ PtL (m * n + n * m) (wayL a b) p q r := by
  have ea := A.eq
  have eb := B.eq
  subst ea eb
  exact pt_thin (Int.mul_pos A.pos B.pos) (subb (mulb B.bx A.bw) (mulb A.bx B.bw)) (subb (mulb B.bby A.bw) (mulb A.bby B.bw)) (Nat.le_trans (mulb A.bw B.bw) (by omega))
theorem pt_by {a b : List Int} {x y w n m : Int} {i j : Nat} (A : PtL i a x y w) (B : FrL j b n m) : ∃ (g p q r : Int), 0 < g ∧ x * n = g * p ∧ y * n = g * q ∧ w * m = g * r ∧ PtL (i * j) (byL a b) p q r := by
  have ea := A.eq
  have eb := B.eq
  subst ea eb
  exact pt_thin (Int.mul_pos A.pos B.pos) (mulb A.bx B.bt) (mulb A.bby B.bt) (mulb A.bw B.bb)
theorem pt_qtr {a : List Int} {x y w : Int} {n : Nat} (A : PtL n a x y w) : PtL n (qtrL a) (-y) x w := by
  have ea := A.eq
  subst ea
  refine ⟨rfl, A.pos, ?_, by rw [Int.natAbs_neg]; exact A.bby, A.bx, A.bw⟩
  rw [Int.natAbs_neg, Nat.gcd_comm y.natAbs x.natAbs]
  exact A.red
theorem fr_inn {a b : List Int} {x y w u v z : Int} {n m : Nat} (A : PtL n a x y w) (B : PtL m b u v z) : ∃ (g p r : Int), 0 < g ∧ x * u + y * v = g * p ∧ w * z = g * r ∧ FrL (n * m + n * m) (innL a b) p r := by
  have ea := A.eq
  have eb := B.eq
  subst ea eb
  exact fr_thin (Int.mul_pos A.pos B.pos) (addb (mulb A.bx B.bx) (mulb A.bby B.bby)) (Nat.le_trans (mulb A.bw B.bw) (Nat.le_add_right _ _))
theorem fr_crs {a b : List Int} {x y w u v z : Int} {n m : Nat} (A : PtL n a x y w) (B : PtL m b u v z) : ∃ (g p r : Int), 0 < g ∧ x * v - y * u = g * p ∧ w * z = g * r ∧ FrL (n * m + n * m) (crsL a b) p r := by
  have ea := A.eq
  have eb := B.eq
  subst ea eb
  exact fr_thin (Int.mul_pos A.pos B.pos) (subb (mulb A.bx B.bby) (mulb A.bby B.bx)) (Nat.le_trans (mulb A.bw B.bw) (Nat.le_add_right _ _))
/-- there and back -/
theorem way_back {a b : List Int} {x y w u v z : Int} {n m : Nat} (A : PtL n a x y w) (B : PtL m b u v z) : sumL (wayL b a) b = a := by
  obtain ⟨g, p, q, r, g0, e1, e2, e3, C⟩ := pt_way B A
  have ea := A.eq
  have eb := B.eq
  subst ea eb
  rw [C.eq]
  show thin [p * z + u * r, q * z + v * r, r * z] = [x, y, w]
  have f1 : g * (p * z + u * r) = z * z * x := by grind
  have f2 : g * (q * z + v * r) = z * z * y := by grind
  have f3 : g * (r * z) = z * z * w := by grind
  have rz : 0 < r * z := Int.mul_pos C.pos B.pos
  obtain ⟨h, p', q', r', h0, i1, i2, i3, i4, i5⟩ := thin3 (x := p * z + u * r) (y := q * z + v * r) rz
  rw [i4]
  have k0 : 0 < g * h := Int.mul_pos g0 h0
  have j1 := thin_mul (x := p') (y := q') (w := r') k0 (pos_of h0 (i3 ▸ rz)) i5
  have j2 := thin_mul (k := z * z) (Int.mul_pos B.pos B.pos) A.pos A.red
  rw [← j1, ← j2, ← f1, ← f2, ← f3, i1, i2, i3, Int.mul_assoc, Int.mul_assoc, Int.mul_assoc]
theorem sgn_pos {k n : Int} (hk : 0 < k) : sgn (k * n) = sgn n := by
  unfold sgn
  by_cases h1 : 0 < n
  · rw [if_pos h1, if_pos (Int.mul_pos hk h1)]
  · by_cases h2 : n < 0
    · have : k * n < 0 := Int.mul_neg_of_pos_of_neg hk h2
      rw [if_neg h1, if_pos h2, if_neg (by omega), if_pos this]
    · have : n = 0 := by omega
      subst this
      rw [Int.mul_zero]
theorem sgn_neg (n : Int) : sgn (-n) = -sgn n := by
  unfold sgn
  split <;> split <;> (try split) <;> (try split) <;> omega
theorem det_id (x y w u v z p q r : Int) : (u * w - x * z) * (q * w - y * r) - (v * w - y * z) * (p * w - x * r) = w * ((x * v - u * y) * r - (v * w - y * z) * p - (x * z - u * w) * q) := by grind
theorem det_g {g1 g2 g t p1 q1 p2 q2 : Int} (h : p1 * q2 - q1 * p2 = g * t) : (g1 * g2 * g) * t = (g1 * p1) * (g2 * q2) - (g1 * q1) * (g2 * p2) := by grind
/-- the side by the cross product of the two ways -/
theorem side_is {a b c : List Int} {x y w u v z p q r : Int} {n m l : Nat} (A : PtL n a x y w) (B : PtL m b u v z) (C : PtL l c p q r) : ∃ t e : Int, crsL (wayL a b) (wayL a c) = [t, e] ∧ sgn t = sidL a b c := by
  obtain ⟨g1, p1, q1, r1, g10, d1, d2, d3, D⟩ := pt_way A B
  obtain ⟨g2, p2, q2, r2, g20, e1, e2, e3, E⟩ := pt_way A C
  obtain ⟨g, t, e, g0, f1, f2, F⟩ := fr_crs D E
  refine ⟨t, e, F.eq, ?_⟩
  have ea := A.eq
  have eb := B.eq
  have ec := C.eq
  subst ea eb ec
  show sgn t = sgn ((x * v - u * y) * r - (v * w - y * z) * p - (x * z - u * w) * q)
  have hh : (g1 * g2 * g) * t = w * ((x * v - u * y) * r - (v * w - y * z) * p - (x * z - u * w) * q) := by
    rw [det_g f1, ← d1, ← d2, ← e1, ← e2]
    exact det_id x y w u v z p q r
  rw [← sgn_pos (Int.mul_pos (Int.mul_pos g10 g20) g0), hh, sgn_pos A.pos]
theorem side_swap {a b c : List Int} {x y w u v z p q r : Int} {n m l : Nat} (A : PtL n a x y w) (B : PtL m b u v z) (C : PtL l c p q r) : sidL b a c = -sidL a b c ∧ sidL a c b = -sidL a b c := by
  have ea := A.eq
  have eb := B.eq
  have ec := C.eq
  subst ea eb ec
  constructor
  · show sgn _ = -sgn _
    rw [← sgn_neg]
    congr 1
    grind
  · show sgn _ = -sgn _
    rw [← sgn_neg]
    congr 1
    grind
end K05
namespace K05
open PySem L2 Ur
abbrev sPlace : Stmt := top 4
abbrev sLFrac : Stmt := top 27
abbrev sLAdd : Stmt := top 28
abbrev sLSign : Stmt := top 29
abbrev sLSpot : Stmt := top 30
abbrev sLWay : Stmt := top 31
abbrev sLOn : Stmt := top 32
abbrev sLBy : Stmt := top 33
abbrev sLCross : Stmt := top 34
abbrev sLSide : Stmt := top 35
abbrev sLBefore : Stmt := top 39
/-- bounds, never reckoned -/
def WB : Nat := 2 ^ 3000
def W2 : Nat := 2 ^ 6500
/-- for corners, and over what they stand -/
def CB : Nat := 2 ^ 700
def SB : Nat := 2 ^ 1500
theorem cb_wb : CB ≤ WB := by unfold CB WB; exact Nat.pow_le_pow_right (by decide) (by decide)
theorem cb_one : 1 ≤ CB := by unfold CB; exact Nat.pos_of_ne_zero (by simp)
theorem le_cb {n k : Nat} (h : n ≤ 2 ^ k) (hk : k ≤ 700) : n ≤ CB := Nat.le_trans h (by unfold CB; exact Nat.pow_le_pow_right (by decide) hk)
theorem cb_lt {k : Nat} (hk : 701 ≤ k) : CB < 2 ^ k := by unfold CB; exact Nat.pow_lt_pow_right (by decide) hk
theorem sb_lt {k : Nat} (hk : 1501 ≤ k) : SB < 2 ^ k := by unfold SB; exact Nat.pow_lt_pow_right (by decide) hk
theorem sb_ge {k : Nat} (hk : k ≤ 1500) : 2 ^ k ≤ SB := by unfold SB; exact Nat.pow_le_pow_right (by decide) hk
theorem cb_sb : CB * SB < 2 ^ 2300 := by
  unfold CB SB
  rw [← Nat.pow_add]
  exact Nat.pow_lt_pow_right (by decide) (by decide)
theorem cb_two : CB * CB + CB * CB ≤ WB := by
  unfold CB WB
  rw [← Nat.pow_add]
  have h : 2 ^ (700 + 700) + 2 ^ (700 + 700) = 2 ^ 1401 := by rw [show (1401 : Nat) = 1400 + 1 from rfl, Nat.pow_succ]; omega
  rw [h]
  exact Nat.pow_le_pow_right (by decide) (by decide)
theorem le_wb {n k : Nat} (h : n ≤ 2 ^ k) (hk : k ≤ 3000) : n ≤ WB := Nat.le_trans h (by unfold WB; exact Nat.pow_le_pow_right (by decide) hk)
theorem lw {x : Int} {n : Nat} (h : x.natAbs ≤ n) (hn : n ≤ WB) : x.natAbs < 2 ^ 3001 := Nat.lt_of_le_of_lt (Nat.le_trans h hn) (by unfold WB; exact Nat.pow_lt_pow_right (by decide) (by decide))
theorem mw {x y : Int} (h : x.natAbs < 2 ^ 3001) (k : y.natAbs < 2 ^ 3001) : CMulW x y := wide_mul (a := 3001) (b := 3001) h k (by decide) (by decide) (by decide)
theorem b100 {n : Nat} (h : n ≤ W2) : n < 2 ^ 9000 := Nat.lt_of_le_of_lt h (by unfold W2; exact Nat.pow_lt_pow_right (by decide) (by decide))
theorem sq2 {n m : Nat} (h1 : n ≤ WB) (h2 : m ≤ WB) : n * m ≤ 2 ^ 6000 := by
  have := Nat.mul_le_mul h1 h2
  unfold WB at this
  rwa [← Nat.pow_add] at this
theorem dbl : 2 ^ 6000 + 2 ^ 6000 ≤ W2 := by
  have h : 2 ^ 6000 + 2 ^ 6000 = 2 ^ 6001 := by rw [show (6001 : Nat) = 6000 + 1 from rfl, Nat.pow_succ]; omega
  rw [h]
  unfold W2
  exact Nat.pow_le_pow_right (by decide) (by decide)
theorem one_le : 2 ^ 6000 ≤ W2 := by unfold W2; exact Nat.pow_le_pow_right (by decide) (by decide)
theorem two2 {n m n' m' : Nat} (h1 : n ≤ WB) (h2 : m ≤ WB) (h3 : n' ≤ WB) (h4 : m' ≤ WB) : n * m + n' * m' ≤ W2 := Nat.le_trans (Nat.add_le_add (sq2 h1 h2) (sq2 h3 h4)) dbl
theorem one2 {n m : Nat} (h1 : n ≤ WB) (h2 : m ≤ WB) : n * m ≤ W2 := Nat.le_trans (sq2 h1 h2) one_le
theorem leW {n m : Nat} (h : n ≤ m) (k : m ≤ W2) : n ≤ W2 := Nat.le_trans h k
def spN3 (K : PySem.W.Frag) : Sp := fun vs H Q _ => ∃ x y w : Int, vs = [.int x, .int y, .int w] ∧ 0 < w ∧ x.natAbs ≤ W2 ∧ y.natAbs ≤ W2 ∧ w.natAbs ≤ W2 ∧ ∀ p H', Same H H' → Tp K H' p (thin [x, y, w]) → Q p H'
def spN2 (K : PySem.W.Frag) : Sp := fun vs H Q _ => ∃ x w : Int, vs = [.int x, .int w] ∧ 0 < w ∧ x.natAbs ≤ W2 ∧ w.natAbs ≤ W2 ∧ ∀ p H', Same H H' → Tp K H' p (thin [x, w]) → Q p H'
def spP1 (K : PySem.W.Frag) (f : List Int → List Int) : Sp := fun vs H Q _ => ∃ (v : V) (a : List Int) (x y w : Int) (n : Nat), vs = [v] ∧ Tp K H v a ∧ PtL n a x y w ∧ n ≤ WB ∧ ∀ p H', Same H H' → Tp K H' p (f a) → Q p H'
def spP2 (K : PySem.W.Frag) (f : List Int → List Int → List Int) : Sp := fun vs H Q _ => ∃ (v v' : V) (a b : List Int) (x y w x' y' w' : Int) (n m : Nat), vs = [v, v'] ∧ Tp K H v a ∧ Tp K H v' b ∧ PtL n a x y w ∧ PtL m b x' y' w' ∧ n ≤ WB ∧ m ≤ WB ∧ ∀ p H', Same H H' → Tp K H' p (f a b) → Q p H'
def spPF (K : PySem.W.Frag) (f : List Int → List Int → List Int) : Sp := fun vs H Q _ => ∃ (v v' : V) (a b : List Int) (x y w t e : Int) (n m : Nat), vs = [v, v'] ∧ Tp K H v a ∧ Tp K H v' b ∧ PtL n a x y w ∧ FrL m b t e ∧ n ≤ WB ∧ m ≤ WB ∧ ∀ p H', Same H H' → Tp K H' p (f a b) → Q p H'
section
variable {P : Program} {w : World} {K :
      PySem.W.Frag} {mg : Str → Option Value} {base : Heap}
abbrev p_n : List Str := ["number"]
def spSgn : Sp := fun vs H Q _ => ∃ n : Int, vs = [.int n] ∧ Q (.int (sgn n)) H
abbrev n_ratio : List Str := ["n", "m", "divisor"]
abbrev p_ratio : List Str := ["n", "m"]
abbrev n_place : List Str := ["x", "y", "w", "divisor"]
abbrev p_place : List Str := ["x", "y", "w"]
theorem sc_place : FnScope n_place p_place (defScope sPlace) := ⟨rfl, rfl, rfl, by decide +kernel, rfl, by decide +kernel, by decide +kernel⟩
theorem ok_place {f : Addr} {fd : FuncData} (F : Fun K "place" "place" sPlace f fd) (mG : mg "gcd" = some (.builtin "math.gcd")) : FnOk P w K mg base CX0 1 f fd p_place (spN3 K) := by
  refine F.ok sc_place (fun vs H Q E h => ?_) (fun cdv A outer s H vs Q E hr h => ?_)
  · obtain ⟨x, y, w, rfl, _⟩ := h
    rfl
  · obtain ⟨x, y, w, rfl, w0, bx, bby, bw, q⟩ := h
    refine ⟨_, (pss_cons (ps_set (i := 3) sc_place.nd rfl (Or.inl rfl) (pe_callBfun cr_gcd (by rfl) mG (pa_cons (pe_callBfun cr_gcd (by rfl) mG (pa_cons (pv 0) (pa_cons (pv 1) pa_nil))) (pa_cons (pv 2) pa_nil))))
      (pss_one (ps_ret (pe_tup (pa_cons (pe_op op_fdivW (pv 0) (pv 3)) (pa_cons (pe_op op_fdivW (pv 1) (pv 3)) (pa_cons (pe_op op_fdivW (pv 2) (pv 3)) pa_nil))))))), ?_⟩
    refine ⟨_, rfl, _, rfl, x, y, rfl, _, rfl, _, _, rfl, ?_⟩
    have g0 := g3_pos (x := x) (y := y) w0
    have gw : gAll [x, y, w] < 2 ^ 9000 := by
      rw [gAll_3]
      exact Nat.lt_of_le_of_lt (Nat.le_of_dvd (by omega) (Nat.gcd_dvd_right _ _)) (b100 bw)
    have eg : Nat.gcd (Int.natAbs ((Nat.gcd x.natAbs y.natAbs : Nat) : Int)) w.natAbs = gAll [x, y, w] := by rw [gAll_3, Int.natAbs_natCast]
    rw [eg]
    have cd : CDivW x ((gAll [x, y, w] : Nat) : Int) := wide_div (b := 9000) (by omega) (by simpa using gw) (by decide) (by decide)
    refine ⟨_, rfl, _, rfl, _, _, rfl, rfl, ⟨cd.1, cd.2⟩, _, rfl, _, rfl, _, _, rfl, rfl, ⟨cd.1, cd.2⟩, _, rfl, _, rfl, _, _, rfl, rfl, ⟨cd.1, cd.2⟩, by show 3 ≤ sizeLine; decide, fun p hp => ?_⟩
    refine q _ _ (same_new hp) ⟨p, rfl, ?_⟩
    rw [thin_eq (g3_pos w0)]
    exact SqT.of upd_same
abbrev p_po : List Str := ["point", "other"]
theorem arg_ints {K : PySem.W.Frag} {H : Hp} {t : Addr} {ns : List Int} (h : SqT K H t (ns.map V.int)) (hl : ns.length ≤ 1000) (hb : ∀ n ∈ ns, n.natAbs < 2 ^ 9000) : Arg K H (.ref t) .tup (ns.map V.int) := by
  refine ⟨tup_kd h, fun _ => ⟨t, rfl, h, by simpa using hl, fun y hy => ?_, fun i hi => ?_⟩⟩
  · obtain ⟨n, _, rfl⟩ := List.mem_map.mp hy
    exact ⟨⟨.int, .base (.int n)⟩, .int n, .int n, rfl, Nat.zero_le _⟩
  · obtain ⟨n, hn, e⟩ := List.mem_map.mp hi
    cases e
    exact hb _ hn
theorem b9 {x : Int} {n : Nat} (h : x.natAbs ≤ n) (hn : n ≤ WB) : x.natAbs < 2 ^ 9000 := Nat.lt_of_lt_of_le (lw h hn) (Nat.pow_le_pow_right (by decide) (by decide))
def spChkP (K : PySem.W.Frag) : Sp := fun vs H Q _ => ∃ (v : V) (a : List Int) (x y w : Int) (n : Nat), vs = [v] ∧ Tp K H v a ∧ PtL n a x y w ∧ n ≤ WB ∧ ∀ H', Same H H' → Q .non H'
/-- a direction: two numbers without a common divisor -/
structure DrL (n : Nat) (a : List Int) (c s : Int) : Prop where
  eq : a = [c, s]
  red : Nat.gcd c.natAbs s.natAbs = 1
  bc : c.natAbs ≤ n
  bs : s.natAbs ≤ n
theorem DrL.pt {n : Nat} {a : List Int} {c s : Int} (h : DrL n a c s) (h1 : 1 ≤ n) : PtL n [c, s, 1] c s 1 := ⟨rfl, by decide, by rw [h.red]; rfl, h.bc, h.bs, h1⟩
def spChkD (K : PySem.W.Frag) : Sp := fun vs H Q _ => ∃ (v : V) (a : List Int) (c s : Int) (n : Nat), vs = [v] ∧ Tp K H v a ∧ DrL n a c s ∧ n ≤ WB ∧ ∀ H', Same H H' → Q .non H'
/-! ### fractions compared -/
def ordL : List Int → List Int → Int
  | [t, e], [u, d] => sgn (t * d - u * e)
  | _, _ => 0
def spOrd (K : PySem.W.Frag) : Sp := fun vs H Q _ => ∃ (v v' : V) (a b : List Int) (t e u d : Int) (n m : Nat), vs = [v, v'] ∧ Tp K H v a ∧ Tp K H v' b ∧ FrL n a t e ∧ FrL m b u d ∧ n ≤ W2 ∧ m ≤ W2 ∧ Q (.int (ordL a b)) H
theorem l2 {x : Int} {n : Nat} (h : x.natAbs ≤ n) (hn : n ≤ W2) : x.natAbs < 2 ^ 9000 := b100 (Nat.le_trans h hn)
theorem m2 {x y : Int} (h : x.natAbs < 2 ^ 9000) (k : y.natAbs < 2 ^ 9000) : CMulW x y := wide_mul (a := 9000) (b := 9000) h k (by decide) (by decide) (by decide)
abbrev p_oo : List Str := ["one", "other"]
/-! ### heights -/
def spUp (K : PySem.W.Frag) : Sp := fun vs H Q _ => ∃ (v v' : V) (a b : List Int) (c s x y w : Int) (n m : Nat), vs = [v, v'] ∧ Tp K H v a ∧ Tp K H v' b ∧ DrL n a c s ∧ PtL m b x y w ∧ 1 ≤ n ∧ n ≤ WB ∧ m ≤ WB ∧ ∀ p H', Same H H' → Tp K H' p (innL [c, s, 1] b) → Q p H'
abbrev p_up : List Str := ["up", "point"]
abbrev n_lfrac : List Str := ["_law_top", "_law_bottom", "_law_low"]
abbrev p_lfrac : List Str := ["_law_top", "_law_bottom"]
theorem sc_lfrac : FnScope n_lfrac p_lfrac (defScope sLFrac) := ⟨rfl, rfl, rfl, by decide +kernel, rfl, by decide +kernel, by decide +kernel⟩
theorem ok_lfrac {f : Addr} {fd : FuncData} (F : Fun K "_law_frac" "_law_frac" sLFrac f fd) (H_law_thin : Has P w K mg base "_law_thin" p_law_thin 2 (spThin K)) : FnOk P w K mg base CX0 3 f fd p_lfrac (spN2 K) := by
  refine F.ok sc_lfrac (fun vs H Q E h => ?_) (fun cdv A outer s H vs Q E hr h => ?_)
  · obtain ⟨x, w, rfl, _⟩ := h
    rfl
  · obtain ⟨x, w, rfl, w0, bx, bw, q⟩ := h
    refine ⟨_, (pss_cons (ps_set (i := 2) sc_lfrac.nd rfl (Or.inl rfl) (pe_has H_law_thin (hr.mono (by decide)) (by rfl) (pa_cons (pe_tup (pa_cons (pv 0) (pa_cons (pv 1) pa_nil))) pa_nil)))
      (pss_one (ps_ret (pe_ifExp (pt_cmpR op_gt (pe_ix (r := rIxT K) ix_tup (pv 2) pe_int (fun _ _ => rfl)) pe_int (nomark _)) (pv 2) (pe_tup (pa_cons (pe_un un_neg (pe_ix (r := rIxT K) ix_tup (pv 2) pe_int (fun _ _ => rfl))) (pa_cons (pe_un un_neg (pe_ix (r := rIxT K) ix_tup (pv 2) pe_int (fun _ _ => rfl))) pa_nil))))))), ?_⟩
    refine ⟨_, rfl, _, rfl, by show 2 ≤ sizeLine; decide, fun p hp => ⟨p, [x, w], rfl, SqT.of upd_same, by simp, fun n hn => ?_, fun p2 H2 s2 t2 => ?_⟩⟩
    · simp only [List.mem_cons, List.not_mem_nil, or_false] at hn
      rcases hn with rfl | rfl
      · exact b100 bx
      · exact b100 bw
    · obtain ⟨g, p', r', g0, e1, e2, e3, _⟩ := thin2 (x := x) w0
      have r0 := pos_of g0 (e2 ▸ w0)
      have s12 := (same_new (p := p) (o := HO.tup [V.int x, V.int w]) hp).trans s2
      have t3 := t2
      rw [e3] at t3
      refine ⟨_, rfl, p2, _, 1, _, rfl, rfl, t3, rfl, _, _, rfl, rfl, _, rfl, ?_⟩
      refine ite2 (fun _ => ?_) (fun c => absurd (decide_eq_true r0) c)
      exact ⟨_, rfl, q _ H2 s12 ⟨p2, rfl, t2⟩⟩
abbrev p_lnum : List Str := ["_law_number"]
theorem sc_lsign : FnScope p_lnum p_lnum (defScope sLSign) := ⟨rfl, rfl, rfl, by decide +kernel, rfl, by decide +kernel, by decide +kernel⟩
theorem ok_lsign {f : Addr} {fd : FuncData} (F : Fun K "_law_sign" "_law_sign" sLSign f fd) (T : Bl mg) : FnOk P w K mg base CX0 1 f fd p_lnum spSgn := by
  refine F.ok sc_lsign (fun vs H Q E h => ?_) (fun cdv A outer s H vs Q E hr h => ?_)
  · obtain ⟨n, rfl, _⟩ := h
    rfl
  · obtain ⟨n, rfl, q⟩ := h
    refine ⟨_, (pss_one (ps_ret (pe_op op_sub (pe_callTy call_int1 (by rfl) T.int PyProof.Rows.boot_int (pa_cons (pe_cmpR op_gt (pv 0) pe_int (nomark _)) pa_nil)) (pe_callTy call_int1 (by rfl) T.int PyProof.Rows.boot_int (pa_cons (pe_cmpR op_lt (pv 0) pe_int (nomark _)) pa_nil))))), ?_⟩
    refine ⟨_, rfl, _, _, rfl, rfl, Or.inr ⟨_, rfl, _, rfl, _, _, rfl, rfl, Or.inr ⟨_, rfl, _, _, rfl, rfl, ?_⟩⟩⟩
    have e : sgn n = (if decide (0 < n) = true then 1 else 0) - (if decide (n < 0) = true then 1 else 0) := by
      unfold sgn
      by_cases h1 : 0 < n
      · rw [if_pos h1, decide_eq_true h1, decide_eq_false (by omega)]
        rfl
      · by_cases h2 : n < 0
        · rw [if_neg h1, if_pos h2, decide_eq_false h1, decide_eq_true h2]
          rfl
        · rw [if_neg h1, if_neg h2, decide_eq_false h1, decide_eq_false h2]
          rfl
    rw [e] at q
    exact q
abbrev p_lspot : List Str := ["_law_x", "_law_y", "_law_w"]
theorem sc_lspot : FnScope p_lspot p_lspot (defScope sLSpot) := ⟨rfl, rfl, rfl, by decide +kernel, rfl, by decide +kernel, by decide +kernel⟩
theorem ok_lspot {f : Addr} {fd : FuncData} (F : Fun K "_law_spot" "_law_spot" sLSpot f fd) (H_law_thin : Has P w K mg base "_law_thin" p_law_thin 2 (spThin K)) : FnOk P w K mg base CX0 3 f fd p_lspot (spN3 K) := by
  refine F.ok sc_lspot (fun vs H Q E h => ?_) (fun cdv A outer s H vs Q E hr h => ?_)
  · obtain ⟨x, y, w, rfl, _⟩ := h
    rfl
  · obtain ⟨x, y, w, rfl, w0, bx, bby, bw, q⟩ := h
    refine ⟨_, (pss_one (ps_ret (pe_has H_law_thin (hr.mono (by decide)) (by rfl) (pa_cons (pe_tup (pa_cons (pv 0) (pa_cons (pv 1) (pa_cons (pv 2) pa_nil)))) pa_nil)))), ?_⟩
    refine ⟨_, rfl, _, rfl, _, rfl, by show 3 ≤ sizeLine; decide, fun p hp => ⟨p, [x, y, w], rfl, SqT.of upd_same, by simp, fun n hn => ?_, fun p2 H2 s2 t2 => q _ H2 ((same_new hp).trans s2) ⟨p2, rfl, t2⟩⟩⟩
    simp only [List.mem_cons, List.not_mem_nil, or_false] at hn
    rcases hn with rfl | rfl | rfl
    · exact b100 bx
    · exact b100 bby
    · exact b100 bw
abbrev p_lway : List Str := ["_law_spot_here", "_law_goal"]
abbrev p_lon : List Str := ["_law_spot_here", "_law_step"]
abbrev p_lby : List Str := ["_law_step", "_law_part"]
abbrev p_lsg : List Str := ["_law_step", "_law_goal"]
theorem sc_sLWay : FnScope p_lway p_lway (defScope sLWay) := ⟨rfl, rfl, rfl, by decide +kernel, rfl, by decide +kernel, by decide +kernel⟩
theorem ok_sLWay {f : Addr} {fd : FuncData} (F : Fun K "_law_way" "_law_way" sLWay f fd) (H_law_spot : Has P w K mg base "_law_spot" p_lspot 3 (spN3 K)) : FnOk P w K mg base CX0 4 f fd p_lway (spP2 K wayL) := by
  refine F.ok sc_sLWay (fun vs H Q E h => ?_) (fun cdv A outer s H vs Q E hr h => ?_)
  · obtain ⟨_, _, _, _, _, _, _, _, _, _, _, _, rfl, _⟩ := h
    rfl
  · obtain ⟨va, vb, a, b, x, y, w, x', y', w', n, m, rfl, ⟨ta, rfl, sa⟩, ⟨tb, rfl, sb⟩, PA, PB, hn, hm, q⟩ := h
    have ea := PA.eq
    have eb := PB.eq
    subst ea eb
    refine ⟨_, (pss_one (ps_ret (pe_has H_law_spot (hr.mono (by decide)) (by rfl) (pa_cons (pe_op op_sub (pe_op op_mulW (pe_ix (r := rIxT K) ix_tup (pv 1) pe_int (fun _ _ => rfl)) (pe_ix (r := rIxT K) ix_tup (pv 0) pe_int (fun _ _ => rfl))) (pe_op op_mulW (pe_ix (r := rIxT K) ix_tup (pv 0) pe_int (fun _ _ => rfl)) (pe_ix (r := rIxT K) ix_tup (pv 1) pe_int (fun _ _ => rfl)))) (pa_cons (pe_op op_sub (pe_op op_mulW (pe_ix (r := rIxT K) ix_tup (pv 1) pe_int (fun _ _ => rfl)) (pe_ix (r := rIxT K) ix_tup (pv 0) pe_int (fun _ _ => rfl))) (pe_op op_mulW (pe_ix (r := rIxT K) ix_tup (pv 0) pe_int (fun _ _ => rfl)) (pe_ix (r := rIxT K) ix_tup (pv 1) pe_int (fun _ _ => rfl)))) (pa_cons (pe_op op_mulW (pe_ix (r := rIxT K) ix_tup (pv 0) pe_int (fun _ _ => rfl)) (pe_ix (r := rIxT K) ix_tup (pv 1) pe_int (fun _ _ => rfl))) pa_nil)))))), ?_⟩
    refine ⟨_, rfl, tb, _, 0, _, rfl, rfl, sb, rfl, _, rfl, ta, _, 2, _, rfl, rfl, sa, rfl, _, _, rfl, rfl, mw (lw PB.bx hm) (lw PA.bw hn), _, rfl, ta, _, 0, _, rfl, rfl, sa, rfl, _, rfl, tb, _, 2, _, rfl, rfl, sb, rfl, _, _, rfl, rfl, mw (lw PA.bx hn) (lw PB.bw hm), _, _, rfl, rfl, _, rfl, tb, _, 1, _, rfl, rfl, sb, rfl, _, rfl, ta, _, 2, _, rfl, rfl, sa, rfl, _, _, rfl, rfl, mw (lw PB.bby hm) (lw PA.bw hn), _, rfl, ta, _, 1, _, rfl, rfl, sa, rfl, _, rfl, tb, _, 2, _, rfl, rfl, sb, rfl, _, _, rfl, rfl, mw (lw PA.bby hn) (lw PB.bw hm), _, _, rfl, rfl, _, rfl, ta, _, 2, _, rfl, rfl, sa, rfl, _, rfl, tb, _, 2, _, rfl, rfl, sb, rfl, _, _, rfl, rfl, mw (lw PA.bw hn) (lw PB.bw hm), ?_⟩
    have h2 := two2 hm hn hn hm
    exact ⟨_, _, _, rfl, Int.mul_pos PA.pos PB.pos, leW (subb (mulb PB.bx PA.bw) (mulb PA.bx PB.bw)) h2, leW (subb (mulb PB.bby PA.bw) (mulb PA.bby PB.bw)) h2, leW (mulb PA.bw PB.bw) (Nat.le_trans (Nat.le_add_left _ _) h2), fun p H' s' tp => q p H' s' tp⟩
theorem sc_sLOn : FnScope p_lon p_lon (defScope sLOn) := ⟨rfl, rfl, rfl, by decide +kernel, rfl, by decide +kernel, by decide +kernel⟩
theorem ok_sLOn {f : Addr} {fd : FuncData} (F : Fun K "_law_on" "_law_on" sLOn f fd) (H_law_spot : Has P w K mg base "_law_spot" p_lspot 3 (spN3 K)) : FnOk P w K mg base CX0 4 f fd p_lon (spP2 K sumL) := by
  refine F.ok sc_sLOn (fun vs H Q E h => ?_) (fun cdv A outer s H vs Q E hr h => ?_)
  · obtain ⟨_, _, _, _, _, _, _, _, _, _, _, _, rfl, _⟩ := h
    rfl
  · obtain ⟨va, vb, a, b, x, y, w, x', y', w', n, m, rfl, ⟨ta, rfl, sa⟩, ⟨tb, rfl, sb⟩, PA, PB, hn, hm, q⟩ := h
    have ea := PA.eq
    have eb := PB.eq
    subst ea eb
    refine ⟨_, (pss_one (ps_ret (pe_has H_law_spot (hr.mono (by decide)) (by rfl) (pa_cons (pe_op op_add (pe_op op_mulW (pe_ix (r := rIxT K) ix_tup (pv 0) pe_int (fun _ _ => rfl)) (pe_ix (r := rIxT K) ix_tup (pv 1) pe_int (fun _ _ => rfl))) (pe_op op_mulW (pe_ix (r := rIxT K) ix_tup (pv 1) pe_int (fun _ _ => rfl)) (pe_ix (r := rIxT K) ix_tup (pv 0) pe_int (fun _ _ => rfl)))) (pa_cons (pe_op op_add (pe_op op_mulW (pe_ix (r := rIxT K) ix_tup (pv 0) pe_int (fun _ _ => rfl)) (pe_ix (r := rIxT K) ix_tup (pv 1) pe_int (fun _ _ => rfl))) (pe_op op_mulW (pe_ix (r := rIxT K) ix_tup (pv 1) pe_int (fun _ _ => rfl)) (pe_ix (r := rIxT K) ix_tup (pv 0) pe_int (fun _ _ => rfl)))) (pa_cons (pe_op op_mulW (pe_ix (r := rIxT K) ix_tup (pv 0) pe_int (fun _ _ => rfl)) (pe_ix (r := rIxT K) ix_tup (pv 1) pe_int (fun _ _ => rfl))) pa_nil)))))), ?_⟩
    refine ⟨_, rfl, ta, _, 0, _, rfl, rfl, sa, rfl, _, rfl, tb, _, 2, _, rfl, rfl, sb, rfl, _, _, rfl, rfl, mw (lw PA.bx hn) (lw PB.bw hm), _, rfl, tb, _, 0, _, rfl, rfl, sb, rfl, _, rfl, ta, _, 2, _, rfl, rfl, sa, rfl, _, _, rfl, rfl, mw (lw PB.bx hm) (lw PA.bw hn), _, _, rfl, rfl, _, rfl, ta, _, 1, _, rfl, rfl, sa, rfl, _, rfl, tb, _, 2, _, rfl, rfl, sb, rfl, _, _, rfl, rfl, mw (lw PA.bby hn) (lw PB.bw hm), _, rfl, tb, _, 1, _, rfl, rfl, sb, rfl, _, rfl, ta, _, 2, _, rfl, rfl, sa, rfl, _, _, rfl, rfl, mw (lw PB.bby hm) (lw PA.bw hn), _, _, rfl, rfl, _, rfl, ta, _, 2, _, rfl, rfl, sa, rfl, _, rfl, tb, _, 2, _, rfl, rfl, sb, rfl, _, _, rfl, rfl, mw (lw PA.bw hn) (lw PB.bw hm), ?_⟩
    have h2 := two2 hn hm hm hn
    exact ⟨_, _, _, rfl, Int.mul_pos PA.pos PB.pos, leW (addb (mulb PA.bx PB.bw) (mulb PB.bx PA.bw)) h2, leW (addb (mulb PA.bby PB.bw) (mulb PB.bby PA.bw)) h2, leW (mulb PA.bw PB.bw) (Nat.le_trans (Nat.le_add_right _ _) h2), fun p H' s' tp => q p H' s' tp⟩
theorem sc_sLCross : FnScope p_lsg p_lsg (defScope sLCross) := ⟨rfl, rfl, rfl, by decide +kernel, rfl, by decide +kernel, by decide +kernel⟩
theorem ok_sLCross {f : Addr} {fd : FuncData} (F : Fun K "_law_cross" "_law_cross" sLCross f fd) (H_law_frac : Has P w K mg base "_law_frac" p_lfrac 3 (spN2 K)) : FnOk P w K mg base CX0 4 f fd p_lsg (spP2 K crsL) := by
  refine F.ok sc_sLCross (fun vs H Q E h => ?_) (fun cdv A outer s H vs Q E hr h => ?_)
  · obtain ⟨_, _, _, _, _, _, _, _, _, _, _, _, rfl, _⟩ := h
    rfl
  · obtain ⟨va, vb, a, b, x, y, w, x', y', w', n, m, rfl, ⟨ta, rfl, sa⟩, ⟨tb, rfl, sb⟩, PA, PB, hn, hm, q⟩ := h
    have ea := PA.eq
    have eb := PB.eq
    subst ea eb
    refine ⟨_, (pss_one (ps_ret (pe_has H_law_frac (hr.mono (by decide)) (by rfl) (pa_cons (pe_op op_sub (pe_op op_mulW (pe_ix (r := rIxT K) ix_tup (pv 0) pe_int (fun _ _ => rfl)) (pe_ix (r := rIxT K) ix_tup (pv 1) pe_int (fun _ _ => rfl))) (pe_op op_mulW (pe_ix (r := rIxT K) ix_tup (pv 0) pe_int (fun _ _ => rfl)) (pe_ix (r := rIxT K) ix_tup (pv 1) pe_int (fun _ _ => rfl)))) (pa_cons (pe_op op_mulW (pe_ix (r := rIxT K) ix_tup (pv 0) pe_int (fun _ _ => rfl)) (pe_ix (r := rIxT K) ix_tup (pv 1) pe_int (fun _ _ => rfl))) pa_nil))))), ?_⟩
    refine ⟨_, rfl, ta, _, 0, _, rfl, rfl, sa, rfl, _, rfl, tb, _, 1, _, rfl, rfl, sb, rfl, _, _, rfl, rfl, mw (lw PA.bx hn) (lw PB.bby hm), _, rfl, ta, _, 1, _, rfl, rfl, sa, rfl, _, rfl, tb, _, 0, _, rfl, rfl, sb, rfl, _, _, rfl, rfl, mw (lw PA.bby hn) (lw PB.bx hm), _, _, rfl, rfl, _, rfl, ta, _, 2, _, rfl, rfl, sa, rfl, _, rfl, tb, _, 2, _, rfl, rfl, sb, rfl, _, _, rfl, rfl, mw (lw PA.bw hn) (lw PB.bw hm), ?_⟩
    have h3 := one2 hn hm
    exact ⟨_, _, rfl, Int.mul_pos PA.pos PB.pos, leW (subb (mulb PA.bx PB.bby) (mulb PA.bby PB.bx)) (two2 hn hm hn hm), leW (mulb PA.bw PB.bw) h3, fun p H' s' tp => q p H' s' tp⟩
theorem sc_lby : FnScope p_lby p_lby (defScope sLBy) := ⟨rfl, rfl, rfl, by decide +kernel, rfl, by decide +kernel, by decide +kernel⟩
theorem ok_lby {f : Addr} {fd : FuncData} (F : Fun K "_law_by" "_law_by" sLBy f fd) (H_law_spot : Has P w K mg base "_law_spot" p_lspot 3 (spN3 K)) : FnOk P w K mg base CX0 4 f fd p_lby (spPF K byL) := by
  refine F.ok sc_lby (fun vs H Q E h => ?_) (fun cdv A outer s H vs Q E hr h => ?_)
  · obtain ⟨_, _, _, _, _, _, _, _, _, _, _, rfl, _⟩ := h
    rfl
  · obtain ⟨va, vb, a, b, x, y, w, t, e, n, m, rfl, ⟨ta, rfl, sa⟩, ⟨tb, rfl, sb⟩, PA, PB, hn, hm, q⟩ := h
    have ea := PA.eq
    have eb := PB.eq
    subst ea eb
    refine ⟨_, (pss_one (ps_ret (pe_has H_law_spot (hr.mono (by decide)) (by rfl) (pa_cons (pe_op op_mulW (pe_ix (r := rIxT K) ix_tup (pv 0) pe_int (fun _ _ => rfl)) (pe_ix (r := rIxT K) ix_tup (pv 1) pe_int (fun _ _ => rfl))) (pa_cons (pe_op op_mulW (pe_ix (r := rIxT K) ix_tup (pv 0) pe_int (fun _ _ => rfl)) (pe_ix (r := rIxT K) ix_tup (pv 1) pe_int (fun _ _ => rfl))) (pa_cons (pe_op op_mulW (pe_ix (r := rIxT K) ix_tup (pv 0) pe_int (fun _ _ => rfl)) (pe_ix (r := rIxT K) ix_tup (pv 1) pe_int (fun _ _ => rfl))) pa_nil)))))), ?_⟩
    refine ⟨_, rfl, ta, _, 0, _, rfl, rfl, sa, rfl, _, rfl, tb, _, 0, _, rfl, rfl, sb, rfl, _, _, rfl, rfl, mw (lw PA.bx hn) (lw PB.bt hm), _, rfl, ta, _, 1, _, rfl, rfl, sa, rfl, _, rfl, tb, _, 0, _, rfl, rfl, sb, rfl, _, _, rfl, rfl, mw (lw PA.bby hn) (lw PB.bt hm), _, rfl, ta, _, 2, _, rfl, rfl, sa, rfl, _, rfl, tb, _, 1, _, rfl, rfl, sb, rfl, _, _, rfl, rfl, mw (lw PA.bw hn) (lw PB.bb hm), ?_⟩
    have h2 := one2 hn hm
    exact ⟨_, _, _, rfl, Int.mul_pos PA.pos PB.pos, leW (mulb PA.bx PB.bt) h2, leW (mulb PA.bby PB.bt) h2, leW (mulb PA.bw PB.bb) h2, fun p H' s' tp => q p H' s' tp⟩
abbrev p_lstep : List Str := ["_law_step"]
abbrev p_lside : List Str := ["_law_spot_here", "_law_goal", "_law_mate"]
theorem sc_lside : FnScope p_lside p_lside (defScope sLSide) := ⟨rfl, rfl, rfl, by decide +kernel, rfl, by decide +kernel, by decide +kernel⟩
def spLSide (K : PySem.W.Frag) : Sp := fun vs H Q _ => ∃ (v v' v'' : V) (a b c : List Int) (x y w x' y' w' p q r : Int) (l : Nat), vs = [v, v', v''] ∧ Tp K H v a ∧ Tp K H v' b ∧ Tp K H v'' c ∧ PtL CB a x y w ∧ PtL CB b x' y' w' ∧ PtL l c p q r ∧ l ≤ CB ∧
  ∀ H', Same H H' → Q (.int (sidL a b c)) H'
theorem ok_lside {f : Addr} {fd : FuncData} (F : Fun K "_law_side" "_law_side" sLSide f fd) (H_law_way : Has P w K mg base "_law_way" p_lway 4 (spP2 K wayL)) (H_law_cross : Has P w K mg base "_law_cross" p_lsg 4 (spP2 K crsL)) (H_law_sign : Has P w K mg base "_law_sign" p_lnum 1 spSgn) : FnOk P w K mg base CX0 5 f fd p_lside (spLSide K) := by
  refine F.ok sc_lside (fun vs H Q E h => ?_) (fun cdv A outer s H vs Q E hr h => ?_)
  · obtain ⟨_, _, _, _, _, _, _, _, _, _, _, _, _, _, _, _, rfl, _⟩ := h
    rfl
  · obtain ⟨va, vb, vc, a, b, c, x, y, w, x', y', w', p, q', r, l, rfl, ta, tb, tc, PA, PB, PC, hl, q⟩ := h
    refine ⟨_, (pss_one (ps_ret (pe_has H_law_sign (hr.mono (by decide)) (by rfl) (pa_cons (pe_ix (r := rIxT K) ix_tup (pe_has H_law_cross (hr.mono (by decide)) (by rfl) (pa_cons (pe_has H_law_way (hr.mono (by decide)) (by rfl) (pa_cons (pv 0) (pa_cons (pv 1) pa_nil))) (pa_cons (pe_has H_law_way (hr.mono (by decide)) (by rfl) (pa_cons (pv 0) (pa_cons (pv 2) pa_nil))) pa_nil))) pe_int (fun _ _ => rfl)) pa_nil)))), ?_⟩
    obtain ⟨_, _, _, _, _, _, _, _, W1⟩ := pt_way PA PB
    obtain ⟨_, _, _, _, _, _, _, _, W2'⟩ := pt_way PA PC
    have hw : CB ≤ WB := cb_wb
    have hw2 : CB * CB + CB * CB ≤ WB := cb_two
    have hw4 : ∀ {l : Nat}, l ≤ CB → l * CB + CB * l ≤ WB := fun h => Nat.le_trans (Nat.add_le_add (Nat.mul_le_mul h (Nat.le_refl _)) (Nat.mul_le_mul (Nat.le_refl _) h)) cb_two
    obtain ⟨t, e, e1, e2⟩ := side_is PA PB PC
    refine ⟨_, rfl, _, rfl, va, vb, a, b, _, _, _, _, _, _, _, _, rfl, ta, tb, PA, PB, hw, hw, fun p1 H1 s1 t1 => ⟨_, rfl, _, rfl, va, vc, a, c, _, _, _, _, _, _, _, _, rfl, ta.same s1, tc.same s1, PA, PC, hw, Nat.le_trans hl hw, fun p2 H2 s2 t2 => ?_⟩⟩
    refine ⟨_, _, _, _, _, _, _, _, _, _, _, _, rfl, t1.same s2, t2, W1, W2', hw2, hw4 hl, fun p3 H3 s3 t3 => ?_⟩
    rw [e1] at t3
    obtain ⟨t3, rfl, q3⟩ := t3
    refine ⟨t3, _, 0, _, rfl, rfl, q3, rfl, t, rfl, ?_⟩
    rw [e2]
    exact q H3 ((s1.trans s2).trans s3)
/-! ### the law's sums, signs, heights -/
def addF : List Int → List Int → List Int
  | [t, e], [u, d] => thin [t * d + u * e, e * d]
  | _, _ => []
def spFF (K : PySem.W.Frag) : Sp := fun vs H Q _ => ∃ (v v' : V) (a b : List Int) (t e u d : Int) (n m : Nat), vs = [v, v'] ∧ Tp K H v a ∧ Tp K H v' b ∧ FrL n a t e ∧ FrL m b u d ∧ n ≤ WB ∧ m ≤ WB ∧ ∀ p H', Same H H' → Tp K H' p (addF a b) → Q p H'
abbrev p_l12 : List Str := ["_law_one", "_law_two"]
theorem sc_ladd : FnScope p_l12 p_l12 (defScope sLAdd) := ⟨rfl, rfl, rfl, by decide +kernel, rfl, by decide +kernel, by decide +kernel⟩
theorem ok_ladd {f : Addr} {fd : FuncData} (F : Fun K "_law_add" "_law_add" sLAdd f fd) (H_law_frac : Has P w K mg base "_law_frac" p_lfrac 3 (spN2 K)) : FnOk P w K mg base CX0 4 f fd p_l12 (spFF K) := by
  refine F.ok sc_ladd (fun vs H Q E h => ?_) (fun cdv A outer s H vs Q E hr h => ?_)
  · obtain ⟨_, _, _, _, _, _, _, _, _, _, rfl, _⟩ := h
    rfl
  · obtain ⟨va, vb, a, b, t, e, u, d, n, m, rfl, ⟨ta, rfl, sa⟩, ⟨tb, rfl, sb⟩, PA, PB, hn, hm, q⟩ := h
    have ea := PA.eq
    have eb := PB.eq
    subst ea eb
    refine ⟨_, (pss_one (ps_ret (pe_has H_law_frac (hr.mono (by decide)) (by rfl) (pa_cons (pe_op op_add (pe_op op_mulW (pe_ix (r := rIxT K) ix_tup (pv 0) pe_int (fun _ _ => rfl)) (pe_ix (r := rIxT K) ix_tup (pv 1) pe_int (fun _ _ => rfl))) (pe_op op_mulW (pe_ix (r := rIxT K) ix_tup (pv 1) pe_int (fun _ _ => rfl)) (pe_ix (r := rIxT K) ix_tup (pv 0) pe_int (fun _ _ => rfl)))) (pa_cons (pe_op op_mulW (pe_ix (r := rIxT K) ix_tup (pv 0) pe_int (fun _ _ => rfl)) (pe_ix (r := rIxT K) ix_tup (pv 1) pe_int (fun _ _ => rfl))) pa_nil))))), ?_⟩
    exact ⟨_, rfl, ta, _, 0, _, rfl, rfl, sa, rfl, _, rfl, tb, _, 1, _, rfl, rfl, sb, rfl, _, _, rfl, rfl, mw (lw PA.bt hn) (lw PB.bb hm), _, rfl, tb, _, 0, _, rfl, rfl, sb, rfl, _, rfl, ta, _, 1, _, rfl, rfl, sa, rfl, _, _, rfl, rfl, mw (lw PB.bt hm) (lw PA.bb hn), _, _, rfl, rfl,
      _, rfl, ta, _, 1, _, rfl, rfl, sa, rfl, _, rfl, tb, _, 1, _, rfl, rfl, sb, rfl, _, _, rfl, rfl, mw (lw PA.bb hn) (lw PB.bb hm), _, _, rfl, Int.mul_pos PA.pos PB.pos, leW (addb (mulb PA.bt PB.bb) (mulb PB.bt PA.bb)) (two2 hn hm hm hn), leW (mulb PA.bb PB.bb) (one2 hn hm), fun p H' s' tp => q p H' s' tp⟩
theorem sgn_bits (n : Int) : sgn n = (if decide (0 < n) = true then 1 else 0) - (if decide (n < 0) = true then 1 else 0) := by
  unfold sgn
  by_cases h1 : 0 < n
  · rw [if_pos h1, decide_eq_true h1, decide_eq_false (by omega)]
    rfl
  · by_cases h2 : n < 0
    · rw [if_neg h1, if_pos h2, decide_eq_false h1, decide_eq_true h2]
      rfl
    · rw [if_neg h1, if_neg h2, decide_eq_false h1, decide_eq_false h2]
      rfl
abbrev n_lcmp : List Str := ["_law_one", "_law_two", "_law_gap"]
def befL : List Int → List Int → Bool
  | [x, y, w], [u, v, z] => decide (0 < u * w - x * z) || (decide (u * w - x * z = 0) && decide (0 < v * w - y * z))
  | _, _ => false
def spBef (K : PySem.W.Frag) : Sp := fun vs H Q _ => ∃ (v v' : V) (a b : List Int) (x y w x' y' w' : Int) (n m : Nat), vs = [v, v'] ∧ Tp K H v a ∧ Tp K H v' b ∧ PtL n a x y w ∧ PtL m b x' y' w' ∧ n ≤ WB ∧ m ≤ WB ∧ ∀ H', Same H H' → Q (.bl (befL a b)) H'
abbrev n_lbef : List Str := ["_law_spot_here", "_law_goal", "_law_gap"]
theorem sc_lbef : FnScope n_lbef p_lway (defScope sLBefore) := ⟨rfl, rfl, rfl, by decide +kernel, rfl, by decide +kernel, by decide +kernel⟩
theorem gpos {g p a : Int} (hg : 0 < g) (e : a = g * p) : decide (0 < p) = decide (0 < a) := by
  subst e
  refine decide_eq_decide.mpr ⟨fun h => Int.mul_pos hg h, fun h => Int.pos_of_mul_pos_right h hg⟩
theorem gnil {g p a : Int} (hg : 0 < g) (e : a = g * p) : decide (p = 0) = decide (a = 0) := by
  subst e
  refine decide_eq_decide.mpr ⟨fun h => by rw [h, Int.mul_zero], fun h => ?_⟩
  rcases Int.mul_eq_zero.mp h with h | h
  · omega
  · exact h
theorem ok_lbef {f : Addr} {fd : FuncData} (F : Fun K "_law_before" "_law_before" sLBefore f fd) (H_law_way : Has P w K mg base "_law_way" p_lway 4 (spP2 K wayL)) : FnOk P w K mg base CX0 5 f fd p_lway (spBef K) := by
  refine F.ok sc_lbef (fun vs H Q E h => ?_) (fun cdv A outer s H vs Q E hr h => ?_)
  · obtain ⟨_, _, _, _, _, _, _, _, _, _, _, _, rfl, _⟩ := h
    rfl
  · obtain ⟨va, vb, a, b, x, y, w, x', y', w', n, m, rfl, ta, tb, PA, PB, hn, hm, q⟩ := h
    refine ⟨_, (pss_cons (ps_set (i := 2) sc_lbef.nd rfl (Or.inl rfl) (pe_has H_law_way (hr.mono (by decide)) (by rfl) (pa_cons (pv 0) (pa_cons (pv 1) pa_nil))))
      (pss_one (ps_ret (pe_or (pe_cmpR op_gt (pe_ix (r := rIxT K) ix_tup (pv 2) pe_int (fun _ _ => rfl)) pe_int (nomark _)) (pe_one (pe_and (pe_cmpR op_eq (pe_ix (r := rIxT K) ix_tup (pv 2) pe_int (fun _ _ => rfl)) pe_int (nomark _)) (pe_one (pe_cmpR op_gt (pe_ix (r := rIxT K) ix_tup (pv 2) pe_int (fun _ _ => rfl)) pe_int (nomark _))))))))), ?_⟩
    obtain ⟨g, p, q', r, g0, e1, e2, e3, PW⟩ := pt_way PA PB
    have ew := PW.eq
    have eB : befL a b = (decide (0 < p) || (decide (p = 0) && decide (0 < q'))) := by
      have ea := PA.eq
      have eb := PB.eq
      subst ea eb
      rw [gpos g0 e1, gnil g0 e1, gpos g0 e2]
      rfl
    refine ⟨_, rfl, _, rfl, va, vb, a, b, _, _, _, _, _, _, _, _, rfl, ta, tb, PA, PB, hn, hm, fun v1 H1 s1 t1 => ?_⟩
    rw [ew] at t1
    obtain ⟨t1, rfl, st1⟩ := t1
    have q1 := q H1 s1
    rw [eB] at q1
    refine ⟨_, rfl, t1, _, 0, _, rfl, rfl, st1, rfl, _, _, rfl, rfl, _, rfl, ?_⟩
    refine ite2 (fun c
          => ?_) (fun c => ?_)
    · rw [c] at q1
      exact q1
    · rw [Bool.eq_false_iff.mpr c] at q1
      refine ⟨_, rfl, t1, _, 0, _, rfl, rfl, st1, rfl, rfl, _, rfl, ?_⟩
      have e0 : decide (V.int p = V.int 0) = decide (p = 0) := decide_eq_decide.mpr ⟨fun h => V.int.inj h, fun h => by rw [h]⟩
      refine ite2 (fun d => ?_) (fun d => ?_)
      · rw [e0] at d
        rw [d] at q1
        refine ⟨_, rfl, t1, _, 1, _, rfl, rfl, st1, rfl, _, _, rfl, rfl, ?_⟩
        exact q1
      · rw [e0] at d
        rw [Bool.eq_false_iff.mpr d] at q1
        exact q1
abbrev p_ltall : List Str := ["_law_aim_here", "_law_spot_here"]
end
end K05
namespace K05
open PySem L2 Ur Hull
abbrev sOnScale : Stmt := top 6
abbrev sTT : Stmt := top 7
abbrev sLB : Stmt := top 8
abbrev sHull : Stmt := top 9
abbrev sPolyF : Stmt := top 14
abbrev sSecF : Stmt := top 15
/-- values in a row, each with what it is -/
structure Al {α : Type} (R : V → α → Prop) (ys : List V) (ps : List α) : Prop where
  len : ys.length = ps.length
  at_ : ∀ (i : Nat) (y : V) (p : α), ys[i]? = some y → ps[i]? = some p → R y p
theorem Al.mono {α : Type} {R R' : V → α → Prop} {ys : List V} {ps : List α} (h : Al R ys ps) (k : ∀ y p, R y p → R' y p) : Al R' ys ps := ⟨h.len, fun i y p a b => k y p (h.at_ i y p a b)⟩
theorem Al.get {α : Type} {R : V → α → Prop} {ys : List V} {ps : List α} (h : Al R ys ps) {i : Nat} {y : V} (hy : ys[i]? = some y) : ∃ p, ps[i]? = some p ∧ R y p := by
  have hl := (List.getElem?_eq_some_iff.mp hy).1
  have : i < ps.length := by rw [← h.len]; exact hl
  exact ⟨ps[i], List.getElem?_eq_getElem this, h.at_ i y _ hy (List.getElem?_eq_getElem this)⟩
theorem Al.mem {α : Type} {R : V → α → Prop} {ys : List V} {ps : List α} (h : Al R ys ps) {y : V} (hy : y ∈ ys) : ∃ p ∈ ps, R y p := by
  obtain ⟨i, hi⟩ := List.getElem?_of_mem hy
  obtain ⟨p, hp, r⟩ := h.get hi
  exact ⟨p, List.mem_of_getElem? hp, r⟩
theorem Al.map {α : Type} {R : V → α → Prop} {ys : List V} {ps : List α} (h : Al R ys ps) {f : V → α} (k : ∀ y p, R y p → f y = p) : ys.map f = ps := by
  apply List.ext_getElem?
  intro i
  rw [List.getElem?_map]
  cases e : ys[i]? with
  | none =>
    have := List.getElem?_eq_none_iff.mp e
    rw [List.getElem?_eq_none (by rw [← h.len]; exact this)]
    rfl
  | some y =>
    obtain ⟨p, hp, r⟩ := h.get e
    rw [hp]
    exact congrArg some (k y p r)
/-- a pair of numbers, made by the def itself -/
def Sp2 (H : Hp) (y : V) (p : P) : Prop := ∃ t, y = .ref t ∧ H t = some (.tup [.int p.1, .int p.2])
theorem Sp2.same {H H' : Hp} (s : Same H H') {y : V} {p : P} (h : Sp2 H y p) : Sp2 H' y p := by
  obtain ⟨t, e, h⟩ := h
  exact ⟨t, e, s _ _ h⟩
def kOf (H : Hp) : V → P
  | .ref t => match H t with
    | some (.tup [.int a, .int b]) => (a, b)
    | _ => (0, 0)
  | _ => (0, 0)
theorem kOf_of {H : Hp} {y : V} {p : P} (h : Sp2 H y p) : kOf H y = p := by
  obtain ⟨t, rfl, h⟩ := h
  unfold kOf
  dsimp only
  rw [h]
def Kd2 (H : Hp) (k : V → P) (y : V) : Prop := Sp2 H y (k y)
theorem Kd2.same {H H' : Hp} (s : Same H H') {k : V → P} {y : V} (h : Kd2 H k y) : Kd2 H' k y := Sp2.same s h
theorem mono_sp {H : Hp} (g : Nat → P) : Mono H fun H' i y => Sp2 H' y (g i) := by
  rintro D H1 H2 j y hD ⟨ys, hl⟩ s1 keep ⟨t, e, h⟩
  exact ⟨t, e, keep t _ (fun z => by rw [z, hl] at h; cases h) h⟩
structure Bq (a : P) : Prop where
  x : a.1.natAbs < 2 ^ 2300
  y : a.2.natAbs < 2 ^ 2300
theorem sub101 {x y : Int} (h : x.natAbs < 2 ^ 2300) (k : y.natAbs < 2 ^ 2300) : (x - y).natAbs < 2 ^ 2301 := by
  have : (2 : Nat) ^ 2301 = 2 ^ 2300 + 2 ^ 2300 := by rw [show (2301 : Nat) = 2300 + 1 from rfl, Nat.pow_succ]; omega
  omega
theorem mq {x y : Int} (h : x.natAbs < 2 ^ 2301) (k : y.natAbs < 2 ^ 2301) : CMulW x y := wide_mul (a := 2301) (b := 2301) h k (by decide) (by decide) (by decide)
section
variable {P' : Program} {w : World} {K :
      PySem.W.Frag} {mg : Str → Option Value} {base : Heap}
/-! ### whole numbers instead of fractions -/
def w3 (p : List Int) : Nat := (p.getD 2 0).natAbs
def scl (pts : List (List Int)) : Nat := pts.foldl (fun g p => Nat.lcm g (w3 p)) 1
def fsc (L : Nat) (p : List Int) : P := (p.getD 0 0 * ((L : Int) / p.getD 2 0), p.getD 1 0 * ((L : Int) / p.getD 2 0))
def Pt3 (n : Nat) (p : List Int) : Prop := ∃ x y w, PtL n p x y w
theorem fold_dvd {S : Nat} : ∀ (pts : List (List Int)) (g : Nat), g ∣ S → (∀ p ∈ pts, w3 p ∣ S) → pts.foldl (fun g p => Nat.lcm g (w3 p)) g ∣ S
  | [], g, h, _ => h
  | p :: r, g, h, k => fold_dvd r _ (Nat.lcm_dvd h (k p List.mem_cons_self)) fun q hq => k q (List.mem_cons_of_mem _ hq)
theorem fold_grow : ∀ (pts : List (List Int)) (g : Nat), g ∣ pts.foldl (fun g p => Nat.lcm g (w3 p)) g
  | [], g => Nat.dvd_refl _
  | p :: r, g => Nat.dvd_trans (Nat.dvd_lcm_left _ _) (fold_grow r _)
theorem fold_has {p : List Int} : ∀ (pts : List (List Int)) (g : Nat), p ∈ pts → w3 p ∣ pts.foldl (fun g p => Nat.lcm g (w3 p)) g
  | [], g, h => by cases h
  | q :: r, g, h => by
    rcases List.mem_cons.mp
          h with rfl | h
    · exact Nat.dvd_trans (Nat.dvd_lcm_right _ _) (fold_grow r _)
    · exact fold_has r _ h
theorem scl_dvd {pts : List (List Int)} {S : Nat} (h : ∀ p ∈ pts, w3 p ∣ S) : scl pts ∣ S := fold_dvd pts 1 (Nat.one_dvd _) h
theorem scl_has {pts : List (List Int)} {p : List Int} (h : p ∈ pts) : w3 p ∣ scl pts := fold_has pts 1 h
theorem scl_next {pts : List (List Int)} {i : Nat} {p : List Int} (h : pts[i]? = some p) : scl (pts.take (i + 1)) = Nat.lcm (scl (pts.take i)) (w3 p) := by
  unfold scl
  rw [take_next h, List.foldl_append]
  rfl
structure Scb (pts : List (List Int)) (S : Nat) : Prop where
  few : pts.length ≤ 1000
  ok : ∀ p ∈ pts, Pt3 CB p
  dvd : ∀ p ∈ pts, w3 p ∣ S
  s0 : 0 < S
  s1 : S < SB
theorem Scb.scl_pos {pts : List (List Int)} {S : Nat} (h : Scb pts S) : 0 < scl pts := Nat.pos_of_dvd_of_pos (scl_dvd h.dvd) h.s0
theorem Scb.scl_le {pts : List (List Int)} {S : Nat} (h : Scb pts S) : scl pts ≤ S := Nat.le_of_dvd h.s0 (scl_dvd h.dvd)
theorem Scb.take {pts : List (List Int)} {S : Nat} (h : Scb pts S) (i : Nat) : scl (pts.take i) ≤ S := Nat.le_of_dvd h.s0 (scl_dvd fun p hp => h.dvd p (List.mem_of_mem_take hp))
theorem fsc_bq {pts : List (List Int)} {S : Nat} (h : Scb pts S) {p : List Int} (hp : p ∈ pts) : Bq (fsc (scl pts) p) := by
  obtain ⟨x, y, w, A⟩ := h.ok p hp
  have e := A.eq
  subst e
  have h1 := h.scl_le
  have h2 := h.s1
  have w0 := A.pos
  have d0 : 0 ≤ (scl pts : Int) / w := Int.ediv_nonneg (by omega) (by omega)
  have d1 : (scl pts : Int) / w ≤ scl pts := Int.ediv_le_self _ (by omega)
  have hd : ((scl pts : Int) / w).natAbs ≤ SB := by omega
  have mul : ∀ {z : Int}, z.natAbs ≤ CB → (z * ((scl pts : Int) / w)).natAbs < 2 ^ 2300 := fun {z} hz => by
    rw [Int.natAbs_mul]
    exact Nat.lt_of_le_of_lt (Nat.mul_le_mul hz hd) cb_sb
  exact ⟨mul A.bx, mul A.bby⟩
def spScale (K : PySem.W.Frag) : Sp := fun vs H Q _ => ∃ (t : Addr) (xs : List V) (pts : List (List Int)) (S : Nat), vs = [.ref t] ∧ SqT K H t xs ∧ Al (Tp K H) xs pts ∧ Scb pts S ∧
  ∀ (H' : Hp) (r l : Addr) (ys : List V), Same H H' → SqT K H' r [.ref l, .int (scl pts : Nat)] → H' l = some (.lst ys) → Al (Sp2 H') ys (pts.map (fsc (scl pts))) → Q (.ref r) H'
abbrev n_on_scale : List Str := ["points", "scale", "point", "x", "y", "w"]
abbrev p_points : List Str := ["points"]
theorem sc_on_scale : FnScope n_on_scale p_points (defScope sOnScale) := ⟨rfl, rfl, rfl, by decide +kernel, rfl, by decide +kernel, by decide +kernel⟩
theorem ok_scale {f : Addr} {fd : FuncData} (F : Fun K "on_scale" "on_scale" sOnScale f fd) (mL : mg "lcm" = some (.builtin "math.lcm")) : FnOk P' w K mg base CX0 1 f fd p_points (spScale K) := by
  refine F.ok sc_on_scale (fun vs H Q E h => ?_) (fun cdv A outer s H vs Q E hr h => ?_)
  · obtain ⟨t, _, _, _, rfl, _⟩ := h
    rfl
  · obtain ⟨t, xs, pts, S, rfl, hS, hA, hB, q⟩ := h
    refine ⟨_, (pss_cons (ps_set (i := 1) sc_on_scale.nd rfl (Or.inr rfl) pe_int)
      (pss_cons (ps_for PassesOwn.never rfl (pi_tup (pv 0)) (pg_name (i := 2) sc_on_scale.nd rfl (Or.inl rfl)) (pss_one (ps_set (i := 1) sc_on_scale.nd rfl (Or.inr rfl) (pe_callBfun cr_lcm (by rfl) mL (pa_cons (pv 1) (pa_cons (pe_ix (r := rIxT K) ix_tup (pv 2) pe_int (fun _ _ => rfl)) pa_nil))))))
      (pss_one (ps_ret (pe_tup (pa_cons (pe_lc (own := [("x", 3), ("y", 4), ("w", 5)]) (g := gTrip K 3 4 5) (tt := tYes) rfl sc_on_scale.nd (pi_tup (pv 0)) (blkOk_by (N := n_on_scale) (sc := defScope sOnScale) (by decide +kernel)) (fun _ _ _ _ _ => pg_tup rfl (pgs_cons (pg_name (i := 3) sc_on_scale.nd rfl (Or.inl rfl)) (pgs_cons (pg_name (i := 4) sc_on_scale.nd rfl (Or.inl rfl)) (pgs_cons (pg_name (i := 5) sc_on_scale.nd rfl (Or.inl rfl)) pgs_nil)))) (fun _ _ _ _ _ => pts_nil) (fun _ _ _ _ _ => (pe_tup (pa_cons (pe_op op_mulW (pv 3) (pe_op op_fdivW (pv 1) (pv 5))) (pa_cons (pe_op op_mulW (pv 4) (pe_op op_fdivW (pv 1) (pv 5))) pa_nil))))) (pa_cons (pv 1) pa_nil))))))), ?_⟩
    refine ⟨_, rfl, t, rfl, ⟨_, hS⟩, for_tup (K := K) (a := t) (xs := xs) (fun i σ H' => ∃ v : Option V, σ = [some (.ref t), some (.int (scl (pts.take i) : Nat)), v, none, none, none] ∧ H' = H) ⟨none, rfl, rfl⟩ (fun i σ H' _ ⟨_, _, e⟩ => e ▸ hS) ?_ ?_⟩
    · rintro i y σ H' hi ⟨v, rfl, rfl⟩
      obtain ⟨p, hp, ⟨tp, rfl, sp⟩⟩ := hA.get hi
      obtain ⟨x, y, w', A⟩ := hB.ok p (List.mem_of_getElem? hp)
      have e := A.eq
      subst e
      have hw : w3 [x, y, w'] = w'.natAbs := rfl
      have e3 : ((w'.natAbs : Nat) : Int) = w' := by have := A.pos; omega
      refine ⟨_, rfl, _, rfl, tp, _, 2, _, rfl, rfl, sp, rfl, scl (pts.take i), w'.natAbs, ?_, ?_, ?_, ?_⟩
      · rw [e3]
      · have h1 := hB.take i
        exact Nat.lt_of_le_of_lt h1 (Nat.lt_trans hB.s1 (sb_lt (by decide)))
      · exact Nat.lt_of_le_of_lt A.bw (cb_lt (by decide))
      · refine ⟨some (.ref tp), ?_, rfl⟩
        rw [scl_next hp, hw]
        rfl
    · rintro σ H' ⟨v, rfl, rfl⟩
      have ep : pts.take xs.length = pts := by rw [hA.len, List.take_length]
      rw [ep]
      unfold tRet tTup tCons tNil
      dsimp only
      refine lcT3 (K := K) (a := t) (xs := xs) (fun i => (.int ((pts.getD i []).getD 0 0), .int ((pts.getD i []).getD 1 0), .int ((pts.getD i []).getD 2 0))) (fun H' i y => Sp2 H' y (fsc (scl pts) (pts.getD i []))) (mono_sp _) (fun R r => ⟨_, rfl, r⟩) hS (fun i x hi => ?_) (by have := hB.few; rw [hA.len]; omega) (fun _ _ _ => rfl) (fun i x H3 hi sm Q' q' => ?_) (fun D ys H2 hD sm hy e1 e2 => ?_)
      · obtain ⟨p, hp, ⟨tp, rfl, sp⟩⟩ := hA.get hi
        obtain ⟨x, y, w', A⟩ := hB.ok p (List.mem_of_getElem? hp)
        have e := A.eq
        subst e
        have ep : pts.getD i [] = [x, y, w'] := by rw [List.getD_eq_getElem?_getD, hp]; rfl
        refine ⟨tp, rfl, ?_⟩
        rw [ep]
        exact sp
      · obtain ⟨p, hp, _⟩ := hA.get hi
        obtain ⟨x, y, w', A⟩ := hB.ok p (List.mem_of_getElem? hp)
        have e := A.eq
        subst e
        have ep : pts.getD i [] = [x, y, w'] := by rw [List.getD_eq_getElem?_getD, hp]; rfl
        rw [ep] at q' ⊢
        have hL := hB.scl_le
        have hS1 := hB.s1
        have w0 := A.pos
        have cd : CDivW (scl pts : Nat) w' := wide_div (b := 9000) w0 (Nat.lt_of_le_of_lt A.bw (cb_lt (by decide))) (by decide) (by decide)
        have d0 : 0 ≤ (scl pts : Int) / w' := Int.ediv_nonneg (by omega) (by omega)
        have d1 : (scl pts : Int) / w' ≤ scl pts := Int.ediv_le_self _ (by omega)
        have bd : ((scl pts : Int) / w').natAbs < 2 ^ 2301 := Nat.lt_trans (by omega : _ < SB) (sb_lt (by decide))
        have b1 : ∀ {z : Int}, z.natAbs ≤ CB → z.natAbs < 2 ^ 2301 := fun h => Nat.lt_of_le_of_lt h (cb_lt (by decide))
        refine ⟨_, rfl, _, rfl, _, rfl, _, _, rfl, rfl, cd, _, _, rfl, rfl, mq (b1 A.bx) bd, _, rfl, _, rfl, _, rfl, _, _, rfl, rfl, cd, _, _, rfl, rfl, mq (b1 A.bby) bd, by show 2 ≤ sizeLine; decide, fun p hp => q' _ _ ⟨p, rfl, upd_same⟩ (same_new hp)⟩
      · refine ⟨_, rfl, by show 2 ≤ sizeLine; decide, fun r hr => q _ r D ys (sm.trans (same_new hr)) (SqT.of upd_same) (same_new hr _ _ hy) ⟨by rw [e1, hA.len, List.length_map], fun i y p hi hp => ?_⟩⟩
        have h1 := e2 i y hi
        have e : p = fsc (scl pts) (pts.getD i []) := by
          rw [List.getElem?_map] at hp
          rw [List.getD_eq_getElem?_getD (l := pts)]
          cases h : pts[i]? with
          | none => rw [h] at hp; cases hp
          | some z => rw [h] at hp; exact (Option.some.inj hp).symm
        rw [e]
        exact h1.same (same_new hr)
/-! ### twice the area of a triangle -/
def spTT : Sp := fun vs H Q _ => ∃ (v1 v2 v3 : V) (a b c : P), vs = [v1, v2, v3] ∧ Sp2 H v1 a ∧ Sp2 H v2 b ∧ Sp2 H v3 c ∧ Bq a ∧ Bq b ∧ Bq c ∧ Q (.int (tt a b c)) H
abbrev p_tt : List Str := ["one", "two", "three"]
theorem sc_tt : FnScope p_tt p_tt (defScope sTT) := ⟨rfl, rfl, rfl, by decide +kernel, rfl, by decide +kernel, by decide +kernel⟩
theorem ok_tt {f : Addr} {fd : FuncData} (F : Fun K "twice_triangle" "twice_triangle" sTT f fd) : FnOk P' w K mg base CX0 1 f fd p_tt spTT := by
  refine F.ok sc_tt (fun vs H Q E h => ?_) (fun cdv A outer s H vs Q E hr h => ?_)
  · obtain ⟨_, _, _, _, _, _, rfl, _⟩ := h
    rfl
  · obtain ⟨v1, v2, v3, ⟨a1, a2⟩, ⟨b1, b2⟩, ⟨c1, c2⟩, rfl, ⟨ta, rfl, sa⟩, ⟨tb, rfl, sb⟩, ⟨tc, rfl, sc⟩, A, B, C, q⟩ := h
    refine ⟨_, (pss_one (ps_ret (pe_op op_sub (pe_op op_mulW (pe_op op_sub (pe_ix (r := rIxT K) ix_tup (pv 1) pe_int (fun _ _ => rfl)) (pe_ix (r := rIxT K) ix_tup (pv 0) pe_int (fun _ _ => rfl))) (pe_op op_sub (pe_ix (r := rIxT K) ix_tup (pv 2) pe_int (fun _ _ => rfl)) (pe_ix (r := rIxT K) ix_tup (pv 0) pe_int (fun _ _ => rfl)))) (pe_op op_mulW (pe_op op_sub (pe_ix (r := rIxT K) ix_tup (pv 1) pe_int (fun _ _ => rfl)) (pe_ix (r := rIxT K) ix_tup (pv 0) pe_int (fun _ _ => rfl))) (pe_op op_sub (pe_ix (r := rIxT K) ix_tup (pv 2) pe_int (fun _ _ => rfl)) (pe_ix (r := rIxT K) ix_tup (pv 0) pe_int (fun _ _ => rfl))))))), ?_⟩
    have ia : ∀ (i : Int) (x : V), atI [V.int a1, .int a2] i = some x → atI [V.int a1, .int a2] i = some x := fun _ _ h => h
    refine ⟨_, rfl, tb, _, 0, _, rfl, rfl, SqT.of sb, rfl, _, rfl, ta, _, 0, _, rfl, rfl, SqT.of sa, rfl, _, _, rfl, rfl, _, rfl, tc, _, 1, _, rfl, rfl, SqT.of sc, rfl, _, rfl, ta, _, 1, _, rfl, rfl, SqT.of sa, rfl, _, _, rfl, rfl, _, _, rfl, rfl, mq (sub101 B.x A.x) (sub101 C.y A.y),
      _, rfl, tb, _, 1, _, rfl, rfl, SqT.of sb, rfl, _, rfl, ta, _, 1, _, rfl, rfl, SqT.of sa, rfl, _, _, rfl, rfl, _, rfl, tc, _, 0, _, rfl, rfl, SqT.of sc, rfl, _, rfl, ta, _, 0, _, rfl, rfl, SqT.of sa, rfl, _, _, rfl, rfl, _, _, rfl, rfl, mq (sub101 B.y A.y) (sub101 C.x A.x), _, _, rfl, rfl, q⟩
/-! ### what is left if a way may only bend to the left -/
abbrev tk (k : V → P) (a b c : V) : Bool := gone (k a) (k b) (k c)
def spLB (K : PySem.W.Frag) : Sp := fun vs H Q _ => ∃ (a : Addr) (xs : List V) (k : V → P), vs = [.ref a] ∧ SqL K H a xs ∧ xs.length ≤ 1000 ∧ (∀ x ∈ xs, Kd2 H k x ∧ Bq (k x)) ∧ ∀ l H', H l = none → Same H H' → H' l = some (.lst (bends (tk k) xs)) → Q (.ref l) H'
abbrev n_lb : List Str := ["spots", "kept", "spot"]
abbrev p_spots : List Str := ["spots"]
theorem sc_lb : FnScope n_lb p_spots (defScope sLB) := ⟨rfl, rfl, rfl, by decide +kernel, rfl, by decide +kernel, by decide +kernel⟩
theorem stack_next {α : Type} {t : α → α → α → Bool} {xs : List α} {i : Nat} {x : α} (h : xs[i]? = some x) : Hull.stack t (xs.take (i + 1)) = x :: popw t x (Hull.stack t (xs.take i)) := by
  unfold Hull.stack
  rw [take_next h, List.foldl_append]
  rfl
theorem popw_mem {α : Type} {t : α → α → α → Bool} {p x : α} : ∀ {st : List α}, x ∈ popw t p st → x ∈ st
  | [], h => h
  | [_], h => h
  | b :: a :: r, h => by
    have e : popw t p (b :: a :: r) = if t a b p then popw t p (a :: r) else b :: a :: r := rfl
    rw [e] at h
    split at h
    · exact List.mem_cons_of_mem _ (popw_mem h)
    · exact h
theorem stack_mem' {α : Type} {t : α → α → α → Bool} {x : α} : ∀ (l st : List α), x ∈ l.foldl (Hull.step t) st → x ∈ st ∨ x ∈ l
  | [], st, h => Or.inl h
  | p :: l, st, h => by
    rcases stack_mem' l _ h with k | k
    · rcases List.mem_cons.mp k with rfl | k
      · exact Or.inr List.mem_cons_self
      · exact Or.inl (popw_mem k)
    · exact Or.inr (List.mem_cons_of_mem _ k)
theorem stack_mem {α : Type} {t : α → α → α → Bool} {x : α} {l : List α} (h : x ∈ Hull.stack t l) : x ∈ l := by
  rcases stack_mem' l [] h with k | k
  · cases k
  · exact k
theorem popw_len {α : Type} {t : α → α → α → Bool} {p : α} : ∀ (st : List α), (popw t p st).length ≤ st.length
  | [] => Nat.le_refl _
  | [_] => Nat.le_refl _
  | b :: a :: r => by
    have e : popw t p (b :: a :: r) = if t a b p then popw t p (a :: r) else b :: a :: r := rfl
    rw [e]
    split
    · have := popw_len (t := t) (p := p) (a :: r)
      simp only [List.length_cons] at this ⊢
      omega
    · exact Nat.le_refl _
theorem stack_len {α : Type} {t : α → α → α → Bool} : ∀ (l st : List α), (l.foldl (Hull.step t) st).length ≤ st.length + l.length
  | [], st => Nat.le_refl _
  | p :: l, st => by
    have h1 := stack_len (t := t) l (Hull.step t st p)
    have h2 := popw_len (t := t) (p := p) st
    simp only [List.foldl_cons, List.length_cons] at h1 ⊢
    have e : (Hull.step t st p).length = (popw t p st).length + 1 := rfl
    omega
theorem atI_two (xs : List V) (c b : V) : atI (xs ++ [c] ++ [b]) (-2) = some c := by
  have hl : (xs ++ [c] ++ [b]).length = xs.length + 2 := by simp
  have e : ixN (xs ++ [c] ++ [b]).length (-2) = some xs.length := by
    unfold ixN
    rw [hl, if_neg (by decide),
          if_pos (by omega)]
    congr 1
    omega
  unfold atI
  rw [e]
  simp
theorem ok_lb {f : Addr} {fd : FuncData} (F : Fun K "_left_bends" "_left_bends" sLB f fd) (T : Bl mg) (H_twice_triangle : Has P' w K mg base "twice_triangle" p_tt 1 spTT) : FnOk P' w K mg base CX0 2 f fd p_spots (spLB K) := by
  refine F.ok sc_lb (fun vs H Q E h => ?_) (fun cdv A outer s H vs Q E hr h => ?_)
  · obtain ⟨t, _, _, rfl, _⟩ := h
    rfl
  · obtain ⟨a, xs, k, rfl, hS, hz, hK, q⟩ := h
    refine ⟨_, (pss_cons (ps_set (i := 1) sc_lb.nd rfl (Or.inl rfl) (pe_lst pa_nil))
      (pss_cons (ps_for PassesOwn.never rfl (pi_list (pv 0)) (pg_name (i := 2) sc_lb.nd rfl (Or.inl rfl)) (pss_cons (ps_while PassesOwn.never (PW.pt (pw_and (pt_cmpR op_gt (pe_callB (r := Ur.rLen K) Ur.len_seq (by rfl) T.len PySem.boot_len (pa_cons (pv 1) pa_nil)) pe_int (nomark _)) (pw_and1 (pt_cmpR op_le (pe_has H_twice_triangle (hr.mono (by decide)) (by rfl) (pa_cons (pe_ix (r := rIxL K) ix_list (pv 1) (pe_un un_neg pe_int) (fun _ _ => rfl)) (pa_cons (pe_ix (r := rIxL K) ix_list (pv 1) (pe_un un_neg pe_int) (fun _ _ => rfl)) (pa_cons (pv 2) pa_nil)))) pe_int (nomark _))))) (pss_one (ps_expr (pe_bm0 PySem.F.plainAttrs_list PySem.F.slot_list_pop PySem.F.type_list_pop mt_pop (pv 1)))))
      (pss_one (ps_expr (pe_bm PySem.F.plainAttrs_list PySem.F.slot_list_append PySem.F.type_list_append mt_append (pv 1) (pa_cons (pv 2) pa_nil))))))
      (pss_one (ps_ret (pv 1))))), ?_⟩
    refine ⟨by show 0 ≤ sizeLine; decide, fun l hl => ?_⟩
    refine ⟨_, rfl, a, rfl, ⟨_, (same_new hl).seq hS⟩, for_list (K := K) (a := a) (xs := xs) (fun i σ H' => ∃ v : Option V, σ = [some (.ref a), some (.ref l), v] ∧ Same H H' ∧ H' l = some (.lst (Hull.stack (tk k) (xs.take i)).reverse)) ⟨none, rfl, same_new hl, upd_same⟩ (fun i σ H' _ ⟨_, _, sm, _⟩ => sm.seq hS) ?_ ?_⟩
    · rintro i x σ H' hi ⟨v, rfl, sm, hk⟩
      have hx := hK x (List.mem_of_getElem? hi)
      have hst : ∀ y ∈ Hull.stack (tk k) (xs.take i), Kd2 H k y ∧ Bq (k y) := fun y hy => hK y (List.mem_of_mem_take (stack_mem hy))
      have hsl : (Hull.stack (tk k) (xs.take i)).length ≤ 1000 := by
        have := stack_len (t := tk k) (xs.take i) []
        have h2 : (xs.take i).length ≤ 1000 := by rw [List.length_take]; omega
        have e : Hull.stack (tk k) (xs.take i) = (xs.take i).foldl (Hull.step (tk k)) [] := rfl
        rw [e]
        simp only [List.length_nil] at this
        omega
      have hnx := stack_next (t := tk k) hi
      generalize Hull.stack (tk k) (xs.take i) = st0 at hk hst hsl hnx
      refine ⟨fun m σ H'' => ∃ st, st.length = m ∧ σ = [some (.ref a), some (.ref l), some x] ∧ Same H H'' ∧ H'' l = some (.lst st.reverse) ∧ popw (tk k) x st = popw (tk k) x st0 ∧ (∀ y ∈ st, Kd2 H k y ∧ Bq (k y)) ∧ st.length ≤ 1000, ⟨_, st0, rfl, rfl, sm, hk, rfl, hst, hsl⟩, ?_⟩
      rintro m σ H'' ⟨st, rfl, rfl, s2, h2, ep, hst2, hl2⟩
      refine ⟨_, rfl, l, _, rfl, Or.inl (SqL.of h2), ?_⟩
      rw [List.length_reverse]
      match st, ep, hst2, hl2, h2 with
      | [], ep, hst2, hl2, h2 =>
        refine ⟨_, _, rfl, rfl, _, rfl, ?_⟩
        refine ite2 (fun c => absurd (of_decide_eq_true c) (by decide)) (fun _ => ?_)
        exact ⟨_, rfl, Or.inl ⟨rfl, _, SqL.of h2⟩, _, rfl, l, _, _, rfl, rfl, h2, by show 0 < sizeLine; decide, some x, rfl, same_own s2 hl, by rw [upd_same, hnx, ← ep]; rfl⟩
      | [b], ep, hst2, hl2, h2 =>
        refine ⟨_, _, rfl, rfl, _, rfl, ?_⟩
        refine ite2 (fun c => absurd (of_decide_eq_true c) (by simp)) (fun _ => ?_)
        exact ⟨_, rfl, Or.inl ⟨rfl, _, SqL.of h2⟩, _, rfl, l, _, _, rfl, rfl, h2, by show 1 < sizeLine; decide, some x, rfl, same_own s2 hl, by rw [upd_same, hnx, ← ep]; rfl⟩
      | b :: c :: r, ep, hst2, hl2, h2 =>
        have er : (b :: c :: r).reverse = r.reverse ++ [c] ++ [b] := by simp
        rw [er] at h2
        have hb := hst2 b List.mem_cons_self
        have hc := hst2 c (List.mem_cons_of_mem _ List.mem_cons_self)
        have ei : popw (tk k) x (b :: c :: r) = if tk k c b x then popw (tk k) x (c :: r) else b :: c :: r := rfl
        refine ⟨_, _, rfl, rfl, _, rfl, ?_⟩
        refine ite2 (fun _ => ?_) (fun d => absurd (decide_eq_true (by simp only [List.length_cons]; omega)) d)
        refine ⟨_, rfl, _, rfl, l, _, _, c, rfl, rfl, SqL.of h2, atI_two _ _ _, _, rfl, _, rfl, l, _, _, b, rfl, rfl, SqL.of h2, atI_last _ _, _, rfl, c, b, x, k c, k b, k x, rfl, hc.1.same s2, hb.1.same s2, hx.1.same s2, hc.2, hb.2, hx.2, _, _, rfl, rfl, _, rfl, ?_⟩
        refine ite2 (fun d => ?_) (fun d => ?_)
        · have e2 : popw (tk k) x (c :: r) = popw (tk k) x st0 := by
            rw [← ep, ei, if_pos (show tk k c b x = true from d)]
          refine ⟨fun σ' H' => σ' = [some (.ref a), some (.ref l), some x] ∧ Same H H' ∧ H' l = some (.lst (c :: r).reverse), fun σ' H' ⟨g1, g2, g3⟩ => ⟨(c :: r).length, by simp, c :: r, rfl, g1, g2, g3, e2, fun y hy => hst2 y (List.mem_cons_of_mem _ hy), by simp only [List.length_cons] at hl2 ⊢; omega⟩, ?_⟩
          exact ⟨_, rfl, Or.inl ⟨rfl, _, SqL.of h2⟩, l, _, b, rfl, rfl, h2, by simp, rfl, same_own s2 hl, by rw [upd_same, List.dropLast_concat]; simp⟩
        · have e2 : b :: c :: r = popw (tk k) x st0 := by
            rw [← ep, ei, if_neg (show ¬ tk k c b x = true from d)]
          refine ⟨_, rfl, Or.inl ⟨rfl, _, SqL.of h2⟩, _, rfl, l, _, _, rfl, rfl, h2, ?_, some x, rfl, same_own s2 hl, by rw [upd_same, hnx, ← e2]; simp⟩
          refine Nat.lt_of_le_of_lt (?_ : _ ≤ 1000) (by decide)
          simp only [List.length_append, List.length_reverse, List.length_cons, List.length_nil] at hl2 ⊢
          omega
    · rintro σ H' ⟨v, rfl, sm, hk⟩
      rw [List.take_length] at hk
      exact ⟨_, rfl, q l H' hl sm hk⟩
end
end K05
namespace K05
open PySem L2 Ur Hull
/-! ### neighbours told once -/
theorem once_snoc {a : P} : ∀ (A : List P) (o : Option P), once o (A ++ [a]) = once o A ++ (if (A.getLast?.or o) = some a then [] else [a])
  | [], o => by
    show (if o = some a then once (some a) [] else a :: once (some a) []) = [] ++ (if o = some a then [] else [a])
    rw [List.nil_append]
    rfl
  | b :: r, o => by
    have ih := once_snoc (a := a) r (some b)
    have e1 : once o (b :: r ++ [a]) = if o = some b then once (some b) (r ++ [a]) else b :: once (some b) (r ++ [a]) := rfl
    have e2 : once o (b :: r) = if o = some b then once (some b) r else b :: once (some b) r := rfl
    have e3 : (b :: r).getLast?.or o = r.getLast?.or (some b) := by
      cases r with
      | nil => rfl
      | cons c r =>
        rw [List.getLast?_cons_cons]
        cases h : (c :: r).getLast? with
        | none => rw [List.getLast?_eq_none_iff] at h; cases h
        | some z => rfl
    rw [e1, e2, e3, ih]
    split
    · rfl
    · rfl
def fOnce (k : V → P) (xs : List V) (i : Nat) : Bool := decide (i = 0) || !decide (k (xs.getD i .non) = k (xs.getD (i - 1) .non))
theorem acc_once (k : V → P) (xs : List V) : ∀ i, i ≤ xs.length → (accF (fOnce k xs) xs i).map k = once none ((xs.take i).map k)
  | 0, _ => by simp [accF, once]
  | i + 1, h => by
    have ih := acc_once k xs i (by omega)
    have hx : xs[i]? = some xs[i] := List.getElem?_eq_getElem (by omega)
    have e : accF (fOnce k xs) xs (i + 1) = if fOnce k xs i then accF (fOnce k xs) xs i ++ (xs[i]?).toList else accF (fOnce k xs) xs i := rfl
    rw [e, take_next hx, List.map_append, List.map_cons, List.map_nil, once_snoc, ← ih, hx]
    have gi : xs.getD i .non = xs[i] := by rw [List.getD_eq_getElem?_getD, hx]; rfl
    have key : fOnce k xs i = !decide ((List.map k (List.take i xs)).getLast?.or none = some (k xs[i])) := by
      unfold fOnce
      rw [gi]
      cases i with
      | zero => simp
      | succ j =>
        have hj : xs[j]? = some xs[j] := List.getElem?_eq_getElem (by omega)
        have gj : xs.getD (j + 1 - 1) .non = xs[j] := by rw [Nat.add_sub_cancel, List.getD_eq_getElem?_getD, hj]; rfl
        rw [gj, take_next hj, List.map_append, List.map_cons, List.map_nil, List.getLast?_concat]
        show (decide (j + 1 = 0) || !decide (k xs[j + 1] = k xs[j])) = !decide (some (k xs[j]) = some (k xs[j + 1]))
        simp only [Nat.add_one_ne_zero, decide_false, Bool.false_or, Option.some.injEq]
        congr 1
        exact decide_eq_decide.mpr ⟨fun h => h.symm, fun h => h.symm⟩
    rw [key]
    by_cases c : (List.map k (List.take i xs)).getLast?.or none = some (k xs[i])
    · rw [if_pos c, decide_eq_true c]
      simp
    · rw [if_neg c, decide_eq_false c]
      simp
theorem sorted_lt {k : V → P} {ys : List V} (h : SrtO.Srtd (ltP k) ys) : (ys.map k).Pairwise (fun x y => ¬ lt y x) := by
  rw [List.pairwise_map]
  refine List.Pairwise.imp (fun {x y} (e : ltP k y x = false) => ?_) h
  intro l
  have h1 := SrtO.lexB_no.mp e
  unfold lt at l
  omega
theorem cut_last (xs : List V) : cutV xs none (some (-1)) = xs.dropLast := by
  unfold cutV
  have e1 : HT.sIx xs.length 0 none = 0 := rfl
  have e2 : HT.sIx xs.length xs.length (some (-1)) = xs.length - 1 := by
    show (if (-1 : Int) < 0 then ((-1 : Int) + (xs.length : Int)).toNat else min (-1 : Int).toNat xs.length) = _
    rw [if_pos (by decide)]
    omega
  rw [e1, e2, List.drop_zero, Nat.sub_zero, ← List.dropLast_eq_take]
/-! ### the hull of points -/
def hullOf (pts : List (List Int)) : List (List Int) := (hl (pts.map (fsc (scl pts)))).map fun p => thin [p.1, p.2, (scl pts : Nat)]
def spHull (K : PySem.W.Frag) : Sp := fun vs H Q _ => ∃ (t : Addr) (xs : List V) (pts : List (List Int)) (S : Nat), vs = [.ref t] ∧ SqT K H t xs ∧ Al (Tp K H) xs pts ∧ Scb pts S ∧
  ∀ (H' : Hp) (r : Addr) (zs : List V), Same H H' → SqT K H' r zs → Al (Tp K H') zs (hullOf pts) → Q (.ref r) H'
theorem mono_tp {K : PySem.W.Frag} {H : Hp} (g : Nat → List Int) : Mono H fun H' i y => Tp K H' y (g i) := by
  rintro D H1 H2 j y hD ⟨ys, hl⟩ s1 keep ⟨t, e, h⟩
  refine ⟨t, e, ?_⟩
  rcases h with (h
        | ⟨o, h⟩) | h
  · exact Or.inl (Or.inl (keep t _ (fun z => by rw [z, hl] at h; cases h) h))
  · exact Or.inl (Or.inr ⟨o, keep t _ (fun z => by rw [z, hl] at h; cases h) h⟩)
  · exact Or.inr h
theorem w2_100 {n : Nat} (h : n < 2 ^ 2300) : n ≤ W2 := Nat.le_trans (Nat.le_of_lt h) (by unfold W2; exact Nat.pow_le_pow_right (by decide) (by decide))
theorem hull_len' {α : Type} (t : α → α → α → Bool) (xs : List α) : (hull t xs).length ≤ 2 * xs.length := by
  unfold hull
  split
  · omega
  · rw [List.length_append, List.length_dropLast, List.length_dropLast]
    unfold bends
    rw [List.length_reverse, List.length_reverse]
    have h1 : (Hull.stack t xs).length ≤ 0 + xs.length := stack_len xs []
    have h2 : (Hull.stack t xs.reverse).length ≤ 0 + xs.reverse.length := stack_len xs.reverse []
    rw [List.length_reverse] at h2
    omega
theorem hull_mem' {α : Type} {t : α → α → α → Bool} {xs : List α} {x : α} (h : x ∈ hull t xs) : x ∈ xs := by
  unfold hull at h
  split at h
  · exact h
  · rcases List.mem_append.mp h with k | k
    · exact stack_mem (List.mem_reverse.mp (List.dropLast_subset _ k))
    · exact List.mem_reverse.mp (stack_mem (List.mem_reverse.mp (List.dropLast_subset _ k)))
section
variable {P' : Program} {w : World} {K :
      PySem.W.Frag} {mg : Str → Option Value} {base : Heap}
abbrev n_hull : List Str := ["points", "spots", "scale", "unlike", "k", "spot", "x", "y"]
theorem sc_hull : FnScope n_hull p_points (defScope sHull) := ⟨rfl, rfl, rfl, by decide +kernel, rfl, by decide +kernel, by decide +kernel⟩
theorem dp_pair {H : Hp} {y : V} {p : P} (h : Sp2 H y p) : Dp K H y (tupD [p.1, p.2]) := by
  obtain ⟨t, rfl, h⟩ := h
  exact dp_ints (ns := [p.1, p.2]) (SqT.of h)
set_option
      maxHeartbeats 1000000 in
theorem ok_hull {f : Addr} {fd : FuncData} (F : Fun K "hull_of" "hull_of" sHull f fd) (T : Bl mg) (H_on_scale : Has P' w K mg base "on_scale" p_points 1 (spScale K)) (H_left_bends : Has P' w K mg base "_left_bends" p_spots 2 (spLB K)) (H_place : Has P' w K mg base "place" p_place 1 (spN3 K)) : FnOk P' w K mg base CX0 3 f fd p_points (spHull K) := by
  refine F.ok sc_hull (fun vs H Q E h => ?_) (fun cdv A outer s H vs Q E hr h => ?_)
  · obtain ⟨t, _, _, _, rfl, _⟩ := h
    rfl
  · obtain ⟨t, xs, pts, S, rfl, hS, hA, hB, q⟩ := h
    have hu := hr.units
    refine ⟨_, (pss_cons (ps_asg (pe_has H_on_scale (hr.mono (by decide)) (by rfl) (pa_cons (pv 0) pa_nil)) (pg_tup rfl (pgs_cons (pg_name (i := 1) sc_hull.nd rfl (Or.inr rfl)) (pgs_cons (pg_name (i := 2) sc_hull.nd rfl (Or.inr rfl)) pgs_nil))))
      (pss_cons (ps_set (i := 1) sc_hull.nd rfl (Or.inr rfl) (pe_callB cr_sortedPO (by rfl) T.sorted PyProof.Rows.boot_sorted (pa_cons (pv 1) pa_nil)))
      (pss_mid (ps_setLc (i := 3) (own := [("k", 4), ("spot", 5)]) (g := gPair K 4 5) rfl sc_hull.nd rfl rfl (sw_true rfl rfl rfl (by decide +kernel)) (pi_enum (by rfl) T.enumerate (pa_cons (pv 1) pa_nil)) (blkOk_by (N := n_hull) (sc := defScope sHull) (by decide +kernel)) (fun _ _ _ _ _ => pg_tup rfl (pgs_cons (pg_name (i := 4) sc_hull.nd rfl (Or.inl rfl)) (pgs_cons (pg_name (i := 5) sc_hull.nd rfl (Or.inl rfl)) pgs_nil))) (fun _ _ _ _ _ => pts_one (PW.pt (pw_or (pt_cmpR op_eq (pv 4) pe_int (nomark _)) (pw_or1 (pt_cmpR (neD_K (K := K) rfl hu) (pv 5) (pe_ix (r := rIxL K) ix_list (pv 1) (pe_op op_sub (pv 4) pe_int) (fun _ _ => rfl)) (nomark _)))))) (fun _ _ _ _ _ => (pv 5)))
      (pss_mid (ps_if (pt_cmpR op_gt (pe_callB (r := Ur.rLen K) Ur.len_seq (by rfl) T.len PySem.boot_len (pa_cons (pv 3) pa_nil)) pe_int (nomark _)) (pss_one (ps_set (i := 3) sc_hull.nd rfl (Or.inl rfl) (pe_op op_cat (pe_slice sl_list (pe_has H_left_bends (hr.mono (by decide)) (by rfl) (pa_cons (pv 3) pa_nil)) po_none (po_some (pe_un un_neg pe_int))) (pe_slice sl_list (pe_has H_left_bends (hr.mono (by decide)) (by rfl) (pa_cons (pe_revL (pv 3)) pa_nil)) po_none (po_some (pe_un un_neg pe_int)))))) pss_nil)
      (pss_one (ps_ret (pe_callTy call_tuple_of (by rfl) T.tuple PyProof.Rows.boot_tuple (pa_cons (pe_lc (own := [("x", 6), ("y", 7)]) (g := gPair K 6 7) (tt := tYes) rfl sc_hull.nd (pi_list (pv 3)) (blkOk_by (N := n_hull) (sc := defScope sHull) (by decide +kernel)) (fun _ _ _ _ _ => pg_tup rfl (pgs_cons (pg_name (i := 6) sc_hull.nd rfl (Or.inl rfl)) (pgs_cons (pg_name (i := 7) sc_hull.nd rfl (Or.inl rfl)) pgs_nil))) (fun _ _ _ _ _ => pts_nil) (fun _ _ _ _ _ => (pe_has H_place (hr.mono (by decide)) (by rfl) (pa_cons (pv 6) (pa_cons (pv 7) (pa_cons (pv 2) pa_nil)))))) pa_nil)))))))), ?_⟩
    refine ⟨_, rfl, t, xs, pts, S, rfl, hS, hA, hB, fun H1 r l ys s1 hr1 hl1 hA1 => ?_⟩
    refine ⟨r, _, rfl, hr1, rfl, _, _, rfl, _, _, rfl, rfl, ?_⟩
    have hk1 : ∀ y ∈ ys, Kd2 H1 (kOf H1) y ∧ Bq (kOf H1 y) := fun y hy => by
      obtain ⟨p, hp, hsp⟩ := hA1.mem hy
      have e := kOf_of hsp
      refine ⟨?_, ?_⟩
      · unfold Kd2; rw [e]; exact hsp
      · rw [e]
        obtain ⟨p', hp', rfl⟩ := List.mem_map.mp hp
        exact fsc_bq hB hp'
    have hm1 : ys.map (kOf H1) = pts.map (fsc (scl pts)) := hA1.map fun y p h => kOf_of h
    refine ⟨_, rfl, l, ys, kOf H1, rfl, SqL.of hl1, fun x hx => (hk1 x hx).1, fun zs p hsrt hstb hp => ?_⟩
    have s2 := s1.trans (same_new (p := p) (o := HO.lst zs) hp)
    have hk2 : ∀ z ∈ zs, Kd2 (upd H1 p (.lst zs)) (kOf H1) z ∧ Bq (kOf H1 z) := fun z hz => by
      have := hk1 z (hstb.perm.mem_iff.mp hz)
      exact ⟨this.1.same (same_new hp), this.2⟩
    have hlen : zs.length ≤ 1000 := by
      rw [hstb.len, hA1.len, List.length_map]
      exact hB.few
    have hz2 : (upd H1 p (.lst zs)) p = some (.lst zs) := upd_same
    have hasc : (accF (fOnce (kOf H1) zs) zs zs.length).map (kOf H1) = ascOf (pts.map (fsc (scl pts))) := by
      rw [acc_once _ _ _ (Nat.le_refl _), List.take_length, once_is (sorted_lt hsrt)]
      refine ascOf_eq (ascOf_asc _) fun q => ?_
      rw [ascOf_mem, ← hm1]
      exact (hstb.perm.map _).mem_iff.symm
    generalize upd H1 p (.lst zs) = H2 at s2 hk2 hz2
    generalize kOf H1 = k at hk2 hasc
    obtain ⟨U, hU⟩ : ∃ U, U = accF (fOnce k zs) zs zs.length := ⟨_, rfl⟩
    rw [← hU] at hasc
    have hUm : ∀ z ∈ U, Kd2 H2 k z ∧ Bq (k z) := fun z hz => by
      have : ∀ (i : Nat), ∀ z ∈ accF (fOnce k zs) zs i, z ∈ zs := by
        intro i
        induction i with
        | zero => intro z hz; cases hz
        | succ i ih =>
          intro z hz
          have e : accF (fOnce k zs) zs (i + 1) = if fOnce k zs i then accF (fOnce k zs) zs i ++ (zs[i]?).toList else accF (fOnce k zs) zs i := rfl
          rw [e] at hz
          split at hz
          · rcases List.mem_append.mp hz with q | q
            · exact ih z q
            · rw [Option.mem_toList] at q
              exact List.mem_of_getElem? q
          · exact ih z hz
      exact hk2 z (this _ z (hU ▸ hz))
    have hUl : U.length ≤ 1000 := by
      have := accF_len (fOnce k zs) zs zs.length
      rw [← hU] at this
      omega
    refine ⟨fun σ' H' => ∃ D, σ' = [some (.ref t), some (.ref p), some (.int (scl pts : Nat)), some (.ref D), none, none, none, none] ∧ Same H2 H' ∧ H' D = some (.lst U), ?_, ?_⟩
    · refine lcEf (K := K) (a := p) (xs := zs) (fOnce k zs) (fun R r => ⟨_, rfl, r⟩) (SqL.of hz2) (by omega) (fun _ _ => rfl) (fun i x H3 hi sm Q' q' => ?_) (fun i x H3 Q' q' => ⟨_, rfl, q'⟩) (fun D H' hD sm hy => ⟨D, rfl, sm, hU ▸ hy⟩)
      have gx : zs.getD i .non = x := by rw [List.getD_eq_getElem?_getD, hi]; rfl
      refine ⟨_, rfl,
            rfl, _, rfl, ?_⟩
      have hq := q'
      refine ite2 (fun c
            => ?_) (fun c => ?_)
      · have e : i = 0 := by have := V.int.inj (of_decide_eq_true c); omega
        have e2 : fOnce k zs i = true := by unfold fOnce; rw [decide_eq_true e]; rfl
        have := q' H3 (Same.refl _)
        rw [e2] at this
        exact this
      · have hi0 : i ≠ 0 := fun e => c (decide_eq_true (by rw [e]; rfl))
        obtain ⟨j, rfl⟩ : ∃ j, i = j + 1 := ⟨i - 1, by omega⟩
        have hjl : j + 1 < zs.length := (List.getElem?_eq_some_iff.mp hi).1
        have hj : zs[j]? = some zs[j] := List.getElem?_eq_getElem (by omega)
        have gj : zs.getD (j + 1 - 1) .non = zs[j] := by rw [Nat.add_sub_cancel, List.getD_eq_getElem?_getD, hj]; rfl
        have ej : ((j + 1 : Nat) : Int) - 1 = ((j : Nat) : Int) := by omega
        have d1 := dp_pair (K := K) ((hk2 x (List.mem_of_getElem? hi)).1.same sm)
        have d2 := dp_pair (K := K) ((hk2 zs[j] (List.mem_of_getElem? hj)).1.same sm)
        refine ⟨_, rfl, _, rfl, _, rfl, _, _, rfl, rfl, p, _, _, zs[j], rfl, rfl, sm.seq (SqL.of hz2), by rw [ej]; exact atI_nat hj, _, _, d1, d2, shaped_ints _, shaped_ints _, _, rfl, ?_⟩
        have e2 : fOnce k zs (j + 1) = !PyData.eqv (tupD [(k x).1, (k x).2]) (tupD [(k zs[j]).1, (k zs[j]).2]) := by
          unfold fOnce tupD
          rw [gx, gj, eqv_ints]
          simp only [Nat.add_one_ne_zero, decide_false, Bool.false_or]
          congr 1
          refine decide_eq_decide.mpr ⟨fun h => by rw [h], fun h => ?_⟩
          simp only [List.cons.injEq, and_true] at h
          exact Prod.ext h.1 h.2
        have := q' H3 (Same.refl _)
        rw [e2] at this
        exact this
    · rintro σ' H' ⟨D, rfl, s3, hD⟩
      refine ⟨fun σ' H' => ∃ D, σ' = [some (.ref t), some (.ref p), some (.int (scl pts : Nat)), some (.ref D), none, none, none, none] ∧ Same H2 H' ∧ H' D = some (.lst (hull (tk k) U)), ?_, ?_⟩
      · refine ⟨_, rfl, D, _, rfl, Or.inl (SqL.of hD), _, _, rfl, rfl, _, rfl, ?_⟩
        refine ite2 (fun c
              => ?_) (fun c => ?_)
        · have h2 : ¬ U.length < 2 := by have := of_decide_eq_true c; omega
          have eh : hull (tk k) U = (bends (tk k) U).dropLast ++ (bends (tk k) U.reverse).dropLast := by unfold hull; rw [if_neg h2]
          have bl : ∀ l : List V, (bends (tk k) l).length ≤ l.length := fun l => by
            unfold bends
            rw [List.length_reverse]
            have : (Hull.stack (tk k) l).length ≤ 0 + l.length := stack_len (t := tk k) l []
            omega
          refine ⟨_, rfl, D, U, k, rfl, SqL.of hD, hUl, fun x hx => ⟨(hUm x hx).1.same s3, (hUm x hx).2⟩, fun l1 H4 hl1 s4 h4 => ⟨1, rfl, -1, rfl, l1, _, rfl, SqL.of h4, fun p1 hp1 => ?_⟩⟩
          rw [cut_last]
          have s5 := s4.trans (same_new (p := p1) (o := HO.lst (bends (tk k) U).dropLast) hp1)
          have hp1' : (upd H4 p1 (.lst (bends (tk k) U).dropLast)) p1 = some (.lst (bends (tk k) U).dropLast) := upd_same
          generalize upd H4 p1 (.lst (bends (tk k) U).dropLast) = H5 at s5 hp1'
          refine ⟨_, rfl, D, U, rfl, SqL.of (s5 _ _ hD), fun p2 hp2 => ⟨p2, U.reverse, k, rfl, SqL.of upd_same, by rw [List.length_reverse]; exact hUl, fun x hx => ⟨(hUm x (List.mem_reverse.mp hx)).1.same ((s3.trans s5).trans (same_new hp2)), (hUm x (List.mem_reverse.mp hx)).2⟩, fun l3 H6 hl3 s6 h6 => ⟨1, rfl, -1, rfl, l3, _, rfl, SqL.of h6, fun p4 hp4 => ?_⟩⟩⟩
          rw [cut_last]
          have s7 := ((same_new (p := p2) (o := HO.lst U.reverse) hp2).trans s6).trans (same_new (p := p4) (o := HO.lst (bends (tk k) U.reverse).dropLast) hp4)
          have l1' := bl U
          have l2' := bl U.reverse
          rw [List.length_reverse] at l2'
          refine ⟨_, _, _, _, rfl, rfl, s7 _ _ hp1', upd_same, ?_, fun p5 hp5 => ⟨p5, rfl, (s3.trans s5).trans (s7.trans (same_new hp5)), by rw [upd_same, eh]⟩⟩
          rw [List.length_dropLast, List.length_dropLast]
          exact Nat.le_trans (by omega : _ ≤ 2000) (by decide)
        · have h2 : U.length < 2 := by
            refine Nat.lt_of_not_le fun z => c (decide_eq_true (by omega))
          exact ⟨D, rfl, s3, by rw [hD]; unfold hull; rw [if_pos h2]⟩
      · rintro σ' H' ⟨D, rfl, s3, hD⟩
        have eh : (hull (tk k) U).map k = hl (pts.map (fsc (scl pts))) := by
          rw [← hull_map (t := tk k) (u := gone) (g := k) (fun _ _ _ => rfl), hasc]
          rfl
        have hhm : ∀ z ∈ hull (tk k) U, Kd2 H2 k z ∧ Bq (k z) := fun z hz => hUm z (hull_mem' hz)
        have hhl : (hull (tk k) U).length ≤ 2000 := Nat.le_trans (hull_len' _ _) (by omega)
        obtain ⟨W, hW⟩ : ∃ W, W = hull (tk k) U := ⟨_, rfl⟩
        rw [← hW] at hD eh hhm hhl
        have L0 := hB.scl_pos
        have L1 := hB.scl_le
        have L2 := hB.s1
        unfold tRet tCB tCons tNil
        dsimp only
        refine lcL2 (K := K) (a := D) (xs := W) (fun i => (.int (k (W.getD i .non)).1, .int (k (W.getD i .non)).2)) (fun H' i y => Tp K H' y (thin [(k (W.getD i .non)).1, (k (W.getD i .non)).2, (scl pts : Nat)])) (mono_tp _) (fun R r => ⟨_, rfl, r⟩) (SqL.of hD) (fun i x hi => ?_) (by omega) (fun _ _ => rfl) (fun i x H3 hi sm Q' q' => ?_) (fun D2 ys2 H5 hD2 sm hy e1 e2 => ?_)
        · have gx : W.getD i .non = x := by rw [List.getD_eq_getElem?_getD, hi]; rfl
          rw [gx]
          obtain ⟨t', e, h⟩ := (hhm x (List.mem_of_getElem? hi)).1
          exact ⟨t', e, SqT.of (s3 _ _ h)⟩
        · have gx : W.getD i .non = x := by rw [List.getD_eq_getElem?_getD, hi]; rfl
          have hb := (hhm x (List.mem_of_getElem? hi)).2
          rw [gx] at q' ⊢
          exact ⟨_, rfl, _, rfl, _, rfl, _, _, _, rfl, by omega, w2_100 hb.x, w2_100 hb.y, w2_100 (Nat.lt_trans (by omega : _ < SB) (sb_lt (by decide))), fun p H' s' tp => q' p H' tp s'⟩
        · refine ⟨D2, ys2, rfl, Or.inl ⟨SqL.of hy, fun l3 hl3 => q _ l3 ys2 (((s2.trans s3).trans sm).trans (same_new hl3)) (SqT.of upd_same) ⟨?_, fun i y p hi hp => ?_⟩⟩⟩
          · unfold hullOf
            rw [e1, List.length_map, ← eh, List.length_map]
          · have h1 := e2 i y hi
            have hi2 : i < W.length := by
              rw [← e1]
              exact (List.getElem?_eq_some_iff.mp hi).1
            have gx : W.getD i .non = W[i] := by rw [List.getD_eq_getElem?_getD, List.getElem?_eq_getElem hi2]; rfl
            have e : p = thin [(k (W.getD i .non)).1, (k (W.getD i .non)).2, (scl pts : Nat)] := by
              unfold hullOf at hp
              rw [← eh, List.map_map, List.getElem?_map, List.getElem?_eq_getElem hi2] at hp
              rw [gx]
              exact (Option.some.inj hp).symm
            rw [e]
            exact h1.same (same_new hl3)
/-! ### sections -/
/-- a row of points is the row of corners of its own hull -/
structure Pol (pts : List (List Int)) (S : Nat) : Prop where
  scb : Scb pts S
  self : hullOf pts = pts
theorem al_data {H : Hp} : ∀ {ys : List V} {pts : List (List Int)}, Al (Tp K H) ys pts → DpAll K H ys (pts.map tupD)
  | [], [], _ => .nil
  | [], _ :: _, h => absurd h.len (by simp)
  | _ :: _, [], h => absurd h.len (by simp)
  | y :: ys, p :: pts, h => .cons (h.at_ 0 y p rfl rfl).dp (al_data ⟨by have := h.len; simpa using this, fun i y' p' a b => h.at_ (i + 1) y' p' a b⟩)
theorem lay_tups : ∀ pts : List (List Int), PyData.canLayAll0 (pts.map tupD) = true
  | [] => rfl
  | p :: r => by
    show (PyData.canLayAll0 (p.map PyData.int) && PyData.canLayAll0 (r.map tupD)) = true
    rw [lay_ints, lay_tups r]
    rfl
theorem depth_tups : ∀ pts : List (List Int), PyData.depthAll (pts.map tupD) ≤ 1
  | [] => Nat.zero_le _
  | p :: r => by
    show max (PyData.depthAll (p.map PyData.int) + 1) (PyData.depthAll (r.map tupD)) ≤ 1
    have := depth_ints p
    have := depth_tups r
    omega
theorem shaped_tups (pts : List (List Int)) : SeqAt.shaped (.tuple (pts.map tupD)) = true := by
  unfold SeqAt.shaped
  show (PyData.canLayAll0 (pts.map tupD) && decide (PyData.depthAll (pts.map tupD) + 1 ≤ 64)) = true
  have := depth_tups pts
  rw [lay_tups, decide_eq_true (by omega)]
  rfl
theorem eqvAll_refl : ∀ pts : List (List Int), PyData.eqvAll (pts.map tupD) (pts.map tupD) = true
  | [] => rfl
  | p :: r => by
    have e : PyData.eqv (tupD p) (tupD p) = decide (p = p) := eqv_ints p p
    show (PyData.eqv (tupD p) (tupD p) && PyData.eqvAll (r.map tupD) (r.map tupD)) = true
    rw [e, eqvAll_refl r, decide_eq_true rfl]
    rfl
abbrev n_polyF : List Str := ["value", "corner"]
theorem sc_polyF : FnScope n_polyF n_value (defScope sPolyF) := ⟨rfl, rfl, rfl, by decide +kernel, rfl, by decide +kernel, by decide +kernel⟩
def spPoly (K : PySem.W.Frag) : Sp := fun vs H Q _ => ∃ (t : Addr) (xs : List V) (pts : List (List Int)) (S : Nat), vs = [.ref t] ∧ SqT K H t xs ∧ Al (Tp K H) xs pts ∧ Pol pts S ∧ 0 < pts.length ∧ ∀ H', Same H H' → Q (.bl true) H'
theorem pt_told {p : List Int} {n : Nat} (h : Pt3 n p) : isPt (p.map V.int) = true := by
  obtain ⟨x, y, w, A⟩ := h
  have e := A.eq
  subst e
  show (decide (0 < w) && decide (Nat.gcd (Nat.gcd x.natAbs y.natAbs) w.natAbs = 1)) = true
  rw [decide_eq_true A.pos, decide_eq_true A.red]
  rfl
theorem pt_arg {H : Hp} {t : Addr} {p : List Int} (h : SqT K H t (p.map V.int)) (hp : Pt3 CB p) : Arg K H (.ref t) .tup (p.map V.int) := by
  obtain ⟨x, y, w, A⟩ := hp
  have e := A.eq
  subst e
  have b : ∀ {z : Int}, z.natAbs ≤ CB → z.natAbs < 2 ^ 9000 := fun h => Nat.lt_of_le_of_lt h (cb_lt (by decide))
  refine arg_ints h (by simp) fun n hn => ?_
  simp only [List.mem_cons, List.not_mem_nil, or_false] at hn
  rcases hn with rfl | rfl | rfl
  · exact b A.bx
  · exact b A.bby
  · exact b A.bw
theorem ok_polyF {f : Addr} {fd : FuncData} (F : Fun K "polygon_fits" "polygon_fits" sPolyF f fd) (T : Bl mg) (H_point_fits : Has P' w K mg base "point_fits" n_value 3 (spTold K isPt)) (H_hull_of : Has P' w K mg base "hull_of" p_points 3 (spHull K)) : FnOk P' w K mg base CX0 4 f fd n_value (spPoly K) := by
  refine F.ok sc_polyF (fun vs H Q E h => ?_) (fun cdv A outer s H vs Q E hr h => ?_)
  · obtain ⟨t, _, _, _, rfl, _⟩ := h
    rfl
  · obtain ⟨t, xs, pts, S, rfl, hS, hA, hP, h0, q⟩ := h
    have hu := hr.units
    have hfew := hP.scb.few
    refine ⟨_, (pss_cons (ps_if (PW.pt (pw_or (pt_not (pt_val (pe_callB call_isi (by rfl) T.isinstance PyProof.Rows.boot_isinstance (pa_cons (pv 0) (pa_cons (pe_bltn (v := .ty "tuple") (by rfl) T.tuple PyProof.Rows.boot_tuple rfl) pa_nil))))) (pw_or1 (pt_not (pt_truth (pv 0) (fun _ => rfl)))))) (pss_one (ps_ret pe_bl)) pss_nil)
      (pss_one (ps_ret (pe_and (pe_callB (cr_all rfl) (by rfl) T.all PyProof.Rows.boot_all (pa_cons (pe_lc (own := [("corner", 1)]) (g := gName 1) (tt := tYes) rfl sc_polyF.nd (pi_tup (pv 0)) (blkOk_by (N := n_polyF) (sc := defScope sPolyF) (by decide +kernel)) (fun _ _ _ _ _ => pg_name (i := 1) sc_polyF.nd rfl (Or.inl rfl)) (fun _ _ _ _ _ => pts_nil) (fun _ _ _ _ _ => (pe_has H_point_fits (hr.mono (by decide)) (by rfl) (pa_cons (pv 1) pa_nil)))) pa_nil)) (pe_one (pe_cmpR (eqD_K (K := K) rfl hu) (pe_has H_hull_of (hr.mono (by decide)) (by rfl) (pa_cons (pv 0) pa_nil)) (pv 0) (nomark _))))))), ?_⟩
    refine ⟨_, rfl, _, _, _, _, _, rfl, .ty "tuple", tup_kd hS, kit_ty (kd_tup .tup), _, rfl, ?_⟩
    refine iteF ?_
    refine ⟨_, rfl, !xs.isEmpty, Or.inr (Or.inl ⟨_, hS, rfl⟩), ?_⟩
    have ne : xs.isEmpty = false := by
      cases xs with
      | nil => exact absurd hA.len (by rw [List.length_nil]; omega)
      | cons x r => rfl
    rw [ne]
    refine iteF ?_
    have hlen : xs.length ≤ 1000 := by rw [hA.len]; exact hfew
    unfold tNext tRet tAndV tCB tCons tNil
    dsimp only
    refine lcT (K := K) (a := t) (xs := xs) (fun _ y => y = .bl true) (fun R r => ⟨_, rfl, r⟩) hS (by omega) (fun _ => rfl) (fun i x H3 hi sm Q' q' => ?_) (fun D ys H2 hD sm hy e1 e2 => ?_)
    · obtain ⟨p, hp, ⟨tp, rfl, sp⟩⟩ := hA.get hi
      have hp3 := hP.scb.ok p (List.mem_of_getElem? hp)
      refine ⟨_, rfl, _, .tup, _, rfl, (pt_arg sp hp3).same sm, fun H4 s4 => q' _ _ ?_ s4⟩
      rw [pt_told hp3]
      rfl
    · have ey : ys = (List.replicate ys.length true).map V.bl := by
        apply List.ext_getElem?
        intro i
        rw [List.getElem?_map]
        cases h : ys[i]? with
        | none =>
          rw [List.getElem?_eq_none (by rw [List.length_replicate]; exact List.getElem?_eq_none_iff.mp h)]
          rfl
        | some y =>
          have hl := (List.getElem?_eq_some_iff.mp h).1
          rw [e2 i y h, List.getElem?_replicate, if_pos hl]
          rfl
      rw [ey] at hy
      refine ⟨D, _, rfl, SqL.of hy, _, rfl, ?_⟩
      have ea : (List.replicate ys.length true).all id = true := by simp
      rw [ea]
      refine iteT ?_
      refine ⟨_, rfl, t, xs, pts, S, rfl, same_sqT sm hS, hA.mono (fun y p h => h.same sm), hP.scb, fun H3 r zs s3 hr3 hA3 => ?_⟩
      rw [hP.self] at hA3
      refine ⟨_, rfl, _, _, .tup hr3 (al_data hA3), .tup (same_sqT (sm.trans s3) hS) (al_data (hA.mono fun y p h => h.same (sm.trans s3))), shaped_tups _, shaped_tups _, ?_⟩
      have e9 : PyData.eqv (.tuple (pts.map tupD)) (.tuple (pts.map tupD)) = true := eqvAll_refl pts
      rw [e9]
      exact q H3 (sm.trans s3)
theorem sc_secF : FnScope n_value n_value (defScope sSecF) := ⟨rfl, rfl, rfl, by decide +kernel, rfl, by decide +kernel, by decide +kernel⟩
/-- a section's corners -/
structure Sec (pts : List (List Int)) (S : Nat) : Prop where
  pol : Pol pts S
  three : 3 ≤ pts.length
  eight : pts.length ≤ 8
def spSec (K : PySem.W.Frag) (r : V) : Sp := fun vs H Q _ => ∃ (t : Addr) (xs : List V) (pts : List (List Int)) (S : Nat), vs = [.ref t] ∧ SqT K H t xs ∧ Al (Tp K H) xs pts ∧ Sec pts S ∧ ∀ H', Same H H' → Q r H'
theorem ok_secF {f : Addr} {fd : FuncData} (F : Fun K "section_fits" "section_fits" sSecF f fd) (T : Bl mg) (H_polygon_fits : Has P' w K mg base "polygon_fits" n_value 4 (spPoly K)) : FnOk P' w K mg base CX0 5 f fd n_value (spSec K (.bl true)) := by
  refine F.ok sc_secF (fun vs H Q E h => ?_) (fun cdv A outer s H vs Q E hr h => ?_)
  · obtain ⟨t, _, _, _, rfl, _⟩ := h
    rfl
  · obtain ⟨t, xs, pts, S, rfl, hS, hA, hP, q⟩ := h
    refine ⟨_, (pss_one (ps_ret (pe_and (pe_callB call_isi (by rfl) T.isinstance PyProof.Rows.boot_isinstance (pa_cons (pv 0) (pa_cons (pe_bltn (v := .ty "tuple") (by rfl) T.tuple PyProof.Rows.boot_tuple rfl) pa_nil))) (pe_and (pe_chain op_le op_le pe_int (pe_callB (r := Ur.rLen K) Ur.len_seq (by rfl) T.len PySem.boot_len (pa_cons (pv 0) pa_nil)) pe_int) (pe_one (pe_has H_polygon_fits (hr.mono (by decide)) (by rfl) (pa_cons (pv 0) pa_nil))))))), ?_⟩
    have h3 := hP.three
    have h8 := hP.eight
    have hl := hA.len
    refine ⟨_, rfl, _, _, _, _, _, rfl, .ty "tuple", tup_kd hS, kit_ty (kd_tup .tup), _, rfl, ?_⟩
    refine iteT ?_
    refine ⟨_, rfl, t, _, rfl, Or.inr hS, _, _, rfl, rfl, _, rfl, ?_⟩
    refine ite2 (fun _ => ?_) (fun c => absurd (decide_eq_true (by omega)) c)
    refine ⟨_, _, rfl, rfl, _, rfl, ?_⟩
    refine ite2 (fun _ => ?_) (fun c => absurd (decide_eq_true (by omega)) c)
    exact ⟨_, rfl, t, xs, pts, S, rfl, hS, hA, hP.pol, by omega, q⟩
end
end K05
namespace K05
open PySem L2 Ur Hull
/-! ### least and greatest of fractions -/
def Fr (n : Nat) (a : List Int) : Prop := ∃ t e, FrL n a t e
def lowF (l a : List Int) : List Int := if ordL a l < 0 then a else l
def highF (h a : List Int) : List Int := if ordL h a < 0 then a else h
theorem lowF_fr {n : Nat} {l a : List Int} (hl : Fr n l) (ha : Fr n a) : Fr n (lowF l a) := by unfold lowF; split; exact ha; exact hl
theorem highF_fr {n : Nat} {l a : List Int} (hl : Fr n l) (ha : Fr n a) : Fr n (highF l a) := by unfold highF; split; exact ha; exact hl
abbrev htF (c s : Int) (p : List Int) : List Int := innL [c, s, 1] p
/-- a bound for heights -/
def WH : Nat := 2 ^ 3500
theorem wh_le : WH ≤ W2 := by unfold WH W2; exact Nat.pow_le_pow_right (by decide) (by decide)
theorem ht_fr {n m : Nat} {u p : List Int} {c s x y w : Int} (A : DrL n u c s) (B : PtL m p x y w) (h1 : 1 ≤ n) (hn : n ≤ 100) (hm : m ≤ WB) : Fr WH (htF c s p) := by
  obtain ⟨g, t, e, _, _, _, F⟩ := fr_inn (A.pt h1) B
  have hb : n * m + n * m ≤ WH := by
    have h2 : n * m ≤ 100 * WB := Nat.mul_le_mul hn hm
    have h3 : 100 * WB + 100 * WB ≤ 2 ^ 8 * 2 ^ 3000 := by
      unfold WB
      generalize 2 ^ 3000 = z
      omega
    have h4 : 2 ^ 8 * 2 ^ 3000 ≤ WH := by
      rw [← Nat.pow_add]
      unfold WH
      exact Nat.pow_le_pow_right (by decide) (by decide)
    omega
  exact ⟨t, e, F.eq, F.pos, F.red, Nat.le_trans F.bt hb, Nat.le_trans F.bb hb⟩
theorem cut_tail (xs : List V) : cutV xs (some 1) none = xs.drop 1 := by
  unfold cutV
  have e1 : HT.sIx xs.length 0 (some 1) = min 1 xs.length := HT.sIx_nat xs.length 0 1
  have e2 : HT.sIx xs.length xs.length none = xs.length := rfl
  rw [e1, e2]
  have e3 : xs.drop (min 1 xs.length) = xs.drop 1 := by
    cases xs with
    | nil => rfl
    | cons x r =>
      have : min 1 (x :: r).length = 1 := by simp only [List.length_cons]; omega
      rw [this]
  rw [e3, List.take_of_length_le]
  rw [List.length_drop]
  omega
/-- a section as a value -/
structure SecV (K : PySem.W.Frag) (H : Hp) (v : V) (xs : List V) (pts : List (List Int)) (S : Nat) : Prop where
  ref : ∃ t, v = .ref t ∧ SqT K H t xs
  al : Al (Tp K H) xs pts
  sec : Sec pts S
theorem SecV.same {K : PySem.W.Frag} {H H' : Hp} {v : V} {xs : List V} {pts : List (List Int)} {S : Nat} (s : Same H H') (h : SecV K H v xs pts S) : SecV K H' v xs pts S :=
  ⟨let ⟨t, e, q⟩ := h.ref; ⟨t, e, same_sqT s q⟩, h.al.mono fun y p q => q.same s, h.sec⟩
def loOf (hs : List (List Int)) : List Int := match hs with | [] => [] | h :: r => r.foldl lowF h
def hiOf (hs : List (List Int)) : List Int := match hs with | [] => [] | h :: r => r.foldl highF h
def spHts (K : PySem.W.Frag) : Sp := fun vs H Q _ => ∃ (v u : V) (xs : List V) (pts : List (List Int)) (S n : Nat) (a : List Int) (c s : Int), vs = [v, u] ∧ SecV K H v xs pts S ∧ Tp K H u a ∧ DrL n a c s ∧ 1 ≤ n ∧ n ≤ 100 ∧
  ∀ (H' : Hp) (r : Addr) (x y : V), Same H H' → SqT K H' r [x, y] → Tp K H' x (loOf (pts.map (htF c s))) → Tp K H' y (hiOf (pts.map (htF c s))) → Q (.ref r) H'
section
variable {P' : Program} {w : World} {K :
      PySem.W.Frag} {mg : Str → Option Value} {base : Heap}
theorem n100 {n : Nat} (h : n ≤ 100) : n ≤ WB := Nat.le_trans h (le_wb (k := 7) (by decide) (by decide))
abbrev n_lohi : List Str := ["section", "up", "low", "high", "corner", "at"]
abbrev p_su : List Str := ["section", "up"]
def spHOf (K : PySem.W.Frag) : Sp := spUp K
end
end K05
namespace K05
open PySem L2 Ur Hull
abbrev sLSorted : Stmt := top 40
abbrev sLHull : Stmt := top 41
/-! ### points and whole numbers -/
/-- a point whose last number divides L -/
structure Pk (L : Nat) (p : List Int) : Prop where
  pt : Pt3 CB p
  dv : w3 p ∣ L
theorem pk_form {L : Nat} (hL : 0 < L) {p : List Int} (h : Pk L p) : ∃ x y w k : Int, PtL CB p x y w ∧ 0 < k ∧ (L : Int) = w * k ∧ fsc L p = (x * k, y * k) := by
  obtain ⟨x, y, w, A⟩ := h.pt
  have hd := h.dv
  have e := A.eq
  subst e
  have w0 := A.pos
  obtain ⟨k, hk⟩ := hd
  have hw : ((w3 [x, y, w] : Nat) : Int) = w := by
    show ((w.natAbs : Nat) : Int) = w
    omega
  have hLk : (L : Int) = w * k := by rw [hk, Int.natCast_mul, hw]
  have k0 : 0 < (k : Int) := by
    rcases Nat.eq_zero_or_pos k with z | z
    · subst z; simp at hk; omega
    · omega
  refine ⟨x, y, w, k, A, k0, hLk, ?_⟩
  show (x * ((L : Int) / w), y * ((L : Int) / w)) = (x * k, y * k)
  rw [hLk, Int.mul_ediv_cancel_left _ (by omega)]
/-- back from whole numbers -/
theorem pk_back {L : Nat} (hL : 0 < L) {p : List Int} (h : Pk L p) : thin [(fsc L p).1, (fsc L p).2, (L : Nat)] = p := by
  obtain ⟨x, y, w, k, A, k0, hLk, e⟩ := pk_form hL h
  have ep := A.eq
  subst ep
  rw [e, hLk]
  show thin [x * k, y * k, w * k] = [x, y, w]
  rw [Int.mul_comm x k, Int.mul_comm y k, Int.mul_comm w k]
  exact thin_mul k0 A.pos A.red
theorem pk_inj {L : Nat} (hL : 0 < L) {p q : List Int} (h : Pk L p) (g : Pk L q) (e : fsc L p = fsc L q) : p = q := by rw [← pk_back hL h, ← pk_back hL g, e]
theorem dpos {a b k : Int} (hk : 0 < k) (e : a = k * b) : decide (0 < a) = decide (0 < b) := by
  subst e
  exact decide_eq_decide.mpr ⟨fun h => Int.pos_of_mul_pos_right h hk, fun h => Int.mul_pos hk h⟩
theorem bef_lt {L : Nat} (hL : 0 < L) {p q : List Int} (h : Pk L p) (g : Pk L q) : befL p q = decide (lt (fsc L p) (fsc L q)) := by
  obtain ⟨x, y, w, k, A, k0, hLk, e⟩ := pk_form hL h
  obtain ⟨u, v, z, j, B, j0, hLj, e'⟩ := pk_form hL g
  have ep := A.eq
  have eq := B.eq
  subst ep eq
  rw [e, e']
  show (decide (0 < u * w - x * z) || (decide (u * w - x * z = 0) && decide (0 < v * w - y * z))) = _
  have hwz : w * k = z * j := by rw [← hLk, hLj]
  have kj : 0 < k * j := Int.mul_pos k0 j0
  have wz : 0 < w * z := Int.mul_pos A.pos B.pos
  -- (u j - x k) w z = L (u w - x z)
  have L0 : 0 < w * k := Int.mul_pos A.pos k0
  have f1 : (u * j - x * k) * (w * z) = (w * k) * (u * w - x * z) := by
    have : (u * j - x * k) * (w * z) = u * w * (z * j) - x * z * (w * k) := by grind
    rw [this, ← hwz]
    grind
  have f2 : (v * j - y * k) * (w * z) = (w * k) * (v * w - y * z) := by
    have : (v * j - y * k) * (w * z) = v * w * (z * j) - y * z * (w * k) := by grind
    rw [this, ← hwz]
    grind
  generalize u * w - x * z = s at f1
  generalize v * w - y * z = t at f2
  have g1 : 0 < s ↔ x * k < u * j := by
    constructor
    · intro hs
      have h1 : 0 < (u * j - x * k) * (w * z) := by rw [f1]; exact Int.mul_pos L0 hs
      have := Int.pos_of_mul_pos_left h1 wz
      omega
    · intro hs
      have h1 : 0 < (w * k) * s := by rw [← f1]; exact Int.mul_pos (by omega) wz
      exact Int.pos_of_mul_pos_right h1 L0
  have g0 : s = 0 ↔ x * k = u * j := by
    constructor
    · intro hs
      rw [hs, Int.mul_zero] at f1
      rcases Int.mul_eq_zero.mp f1 with h1 | h1
      · omega
      · omega
    · intro hs
      have : u * j - x * k = 0 := by omega
      rw [this, Int.zero_mul] at f1
      rcases Int.mul_eq_zero.mp f1.symm with h1 | h1
      · omega
      · exact h1
  have g2 : 0 < t ↔ y * k < v * j := by
    constructor
    · intro hs
      have h1 : 0 < (v * j - y * k) * (w * z) := by rw [f2]; exact Int.mul_pos L0 hs
      have := Int.pos_of_mul_pos_left h1 wz
      omega
    · intro hs
      have h1 : 0 < (w * k) * t := by rw [← f2]; exact Int.mul_pos (by omega) wz
      exact Int.pos_of_mul_pos_right h1 L0
  unfold lt
  simp only
  by_cases c1 : 0 < s
  · rw [decide_eq_true c1, Bool.true_or]
    exact (decide_eq_true (Or.inl (g1.mp c1))).symm
  · rw [decide_eq_false c1, Bool.false_or]
    by_cases c2 : s = 0
    · rw [decide_eq_true c2, Bool.true_and]
      refine decide_eq_decide.mpr ⟨fun h => Or.inr ⟨g0.mp c2, g2.mp h⟩, fun h => ?_⟩
      rcases h with h | h
      · exact absurd (g1.mpr h) c1
      · exact g2.mpr h.2
    · rw [decide_eq_false c2, Bool.false_and]
      refine (decide_eq_false ?_).symm
      rintro (h | h)
      · exact c1 (g1.mpr h)
      · exact c2 (g0.mpr h.1)
theorem sid_gone {L : Nat} (hL : 0 < L) {a b c : List Int} (h : Pk L a) (g : Pk L b) (i : Pk L c) : decide (sidL a b c ≤ 0) = gone (fsc L a) (fsc L b) (fsc L c) := by
  obtain ⟨x, y, w, k, A, k0, hLk, e⟩ := pk_form hL h
  obtain ⟨u, v, z, j, B, j0, hLj, e'⟩ := pk_form hL g
  obtain ⟨p, q, r, l, C, l0, hLl, e2⟩ := pk_form hL i
  have ep := A.eq
  have eq := B.eq
  have er := C.eq
  subst ep eq er
  rw [e, e', e2]
  unfold gone
  show decide (sgn ((x * v - u * y) * r - (v * w - y * z) * p - (x * z - u * w) * q) ≤ 0) = _
  have hm : (x * v - u * y) * r - (v * w - y * z) * p - (x * z - u * w) * q = (x * v - u * y) * r - (v * w - y * z) * p - (x * z - u * w) * q := rfl
  have hwz : z * j = w * k := by rw [← hLk, hLj]
  have hrl : r * l = w * k := by rw [← hLk, hLl]
  have key : tt (x * k, y * k) (u * j, v * j) (p * l, q * l) * (z * r) = (w * k) * k * ((x * v - u * y) * r - (v * w - y * z) * p - (x * z - u * w) * q) := by
    unfold tt
    simp only
    have h1 : ((u * j - x * k) * (q * l - y * k) - (v * j - y * k) * (p * l - x * k)) * (z * r) = (u * (z * j) - x * k * z) * (q * (r * l) - y * k * r) - (v * (z * j) - y * k * z) * (p * (r * l) - x * k * r) := by grind
    rw [h1, hwz, hrl]
    grind
  have zr : 0 < z * r := Int.mul_pos B.pos C.pos
  have wkk : 0 < (w * k) * k := Int.mul_pos (Int.mul_pos A.pos k0) k0
  generalize (x * v - u * y) * r - (v * w - y * z) * p - (x * z - u * w) * q = s at key
  generalize tt (x * k, y * k) (u * j, v * j) (p * l, q * l) = T at key
  have sg : sgn s ≤ 0 ↔ s ≤ 0 := by unfold sgn; split <;> (try split) <;> omega
  refine decide_eq_decide.mpr (sg.trans ⟨fun h => ?_, fun h => ?_⟩)
  · by_cases g : T ≤ 0
    · exact g
    · have h1 : 0 < T * (z * r) := Int.mul_pos (by omega) zr
      have h2 : (w * k) * k * s ≤ 0 := Int.mul_nonpos_of_nonneg_of_nonpos (Int.le_of_lt wkk) h
      omega
  · by_cases g : s ≤ 0
    · exact g
    · have h1 : 0 < (w * k) * k * s := Int.mul_pos wkk (by omega)
      have h2 : T * (z * r) ≤ 0 := Int.mul_nonpos_of_nonpos_of_nonneg h (Int.le_of_lt zr)
      omega
/-! ### items: a value and its point -/
abbrev Im := V × List Int
def keyI (L : Nat) (it : Im) : P := fsc L it.2
def tI (L : Nat) (a b c : Im) : Bool := gone (keyI L a) (keyI L b) (keyI L c)
def cntI (row : List Im) (it : Im) : Nat := (row.filter fun m => befL m.2 it.2).length
def insI (row : List Im) (it : Im) : List Im := if it.2 ∈ row.map Prod.snd then row else row.take (cntI row it) ++ [it] ++ row.drop (cntI row it)
/-- a place in a row in order -/
theorem ins_at {p : P} : ∀ {l : List P}, Asc l → p ∉ l → l.take ((l.filter fun a => decide (lt a p)).length) ++ [p] ++ l.drop ((l.filter fun a => decide (lt a p)).length) = ins p l
  | [], _, _ => rfl
  | a :: r, h, hn => by
    have h1 := List.pairwise_cons.mp h
    by_cases c : lt p a
    · have e : (a :: r).filter (fun a => decide (lt a p)) = [] := by
        rw [List.filter_eq_nil_iff]
        intro x hx
        have : lt p x := by
          rcases List.mem_cons.mp hx with rfl | k
          · exact c
          · exact lt_trans c (h1.1 x k)
        simp only [decide_eq_true_eq]
        exact lt_asymm this
      rw [e]
      unfold ins
      rw [if_pos c]
      rfl
    · have ne : p ≠ a := fun z => hn (by rw [z]; exact List.mem_cons_self)
      have la : lt a p := by
        rcases lt_tri a p with k | k | k
        · exact k
        · exact (ne k.symm).elim
        · exact (c k).elim
      have ih := ins_at h1.2 (p := p) (fun z => hn (List.mem_cons_of_mem _ z))
      rw [List.filter_cons_of_pos (by simpa using la)]
      unfold ins
      rw [if_neg c, if_neg ne, ← ih]
      simp
theorem insI_key {L : Nat} (hL : 0 < L) {row : List Im} {it : Im} (hr : ∀ m ∈ row, Pk L m.2) (hi : Pk L it.2) (ha : Asc (row.map (keyI L))) : (insI row it).map (keyI L) = ins (keyI L it) (row.map (keyI L)) := by
  unfold insI
  have mem : it.2 ∈ row.map Prod.snd ↔ keyI L it ∈ row.map (keyI L) := by
    constructor
    · intro h
      obtain ⟨m, hm, e⟩ := List.mem_map.mp h
      exact List.mem_map.mpr ⟨m, hm, by unfold keyI; rw [e]⟩
    · intro h
      obtain ⟨m, hm, e⟩ := List.mem_map.mp h
      exact List.mem_map.mpr ⟨m, hm, pk_inj hL (hr m hm) hi e⟩
  by_cases c : it.2 ∈ row.map Prod.snd
  · rw [if_pos c]
    have hm := mem.mp c
    refine asc_ext ha (ins_asc ha) fun q => ?_
    rw [ins_mem]
    exact ⟨Or.inr, fun h => h.elim (fun e => e ▸ hm) id⟩
  · rw [if_neg c]
    have hn : keyI L it ∉ row.map (keyI L) := fun z => c (mem.mpr z)
    have ec : cntI row it = ((row.map (keyI L)).filter fun a => decide (lt a (keyI L it))).length := by
      unfold cntI
      rw [List.filter_map, List.length_map]
      congr 1
      refine List.filter_congr fun m hm => ?_
      exact bef_lt hL (hr m hm) hi
    rw [← ins_at ha hn, ← ec]
    simp [List.map_take, List.map_drop]
def sortI (its : List Im) : List Im := its.foldl insI []
theorem insI_mem {row : List Im} {it m : Im} (h : m ∈ insI row it) : m = it ∨ m ∈ row := by
  unfold insI at h
  split at h
  · exact Or.inr h
  · rcases List.mem_append.mp
        h with h | h
    · rcases List.mem_append.mp
          h with h | h
      · exact Or.inr (List.mem_of_mem_take h)
      · exact Or.inl (List.mem_singleton.mp h)
    · exact Or.inr (List.mem_of_mem_drop h)
theorem sortI_mem' {m : Im} : ∀ (its row : List Im), m ∈ its.foldl insI row → m ∈ row ∨ m ∈ its
  | [], row, h => Or.inl h
  | it :: r, row, h => by
    rcases sortI_mem' r _ h with k | k
    · rcases insI_mem k with e | k
      · exact Or.inr (e ▸ List.mem_cons_self)
      · exact Or.inl k
    · exact Or.inr (List.mem_cons_of_mem _ k)
theorem sortI_mem {m : Im} {its : List Im} (h : m ∈ sortI its) : m ∈ its := by
  rcases sortI_mem' its [] h with k | k
  · cases k
  · exact k
theorem sortI_next {its : List Im} {i : Nat} {it : Im} (h : its[i]? = some it) : sortI (its.take (i + 1)) = insI (sortI (its.take i)) it := by
  unfold sortI
  rw [take_next h, List.foldl_append]
  rfl
theorem sortI_key' {L : Nat} (hL : 0 < L) : ∀ (its row : List Im), (∀ m ∈ its, Pk L m.2) → (∀ m ∈ row, Pk L m.2) → Asc (row.map (keyI L)) → Asc ((its.foldl insI row).map (keyI L)) ∧ ∀ q, q ∈ (its.foldl insI row).map (keyI L) ↔ q ∈ row.map (keyI L) ∨ q ∈ its.map (keyI L)
  | [], row, _, _, ha => ⟨ha, fun q => by simp⟩
  | it :: r, row, h, hr, ha => by
    have hk := insI_key hL hr (h it List.mem_cons_self) ha
    have ha2 : Asc ((insI row it).map (keyI L)) := by rw [hk]; exact ins_asc ha
    have hr2 : ∀ m ∈ insI row it, Pk L m.2 := fun m hm => by
      rcases insI_mem hm with e | k
      · rw [e]; exact h it List.mem_cons_self
      · exact hr m k
    obtain ⟨a, b⟩ := sortI_key' hL r (insI row it) (fun m hm => h m (List.mem_cons_of_mem _ hm)) hr2 ha2
    refine ⟨a, fun q => ?_⟩
    show q ∈ (r.foldl insI (insI row it)).map (keyI L) ↔ _
    rw [b q, hk, ins_mem, List.map_cons, List.mem_cons]
    constructor
    · rintro ((h | h) | h)
      · exact Or.inr (Or.inl h)
      · exact Or.inl h
      · exact Or.inr (Or.inr h)
    · rintro (h | (h | h))
      · exact Or.inl (Or.inr h)
      · exact Or.inl (Or.inl h)
      · exact Or.inr h
theorem sortI_key {L : Nat} (hL : 0 < L) {its : List Im} (h : ∀ m ∈ its, Pk L m.2) : (sortI its).map (keyI L) = ascOf (its.map (keyI L)) := by
  obtain ⟨a, b⟩ := sortI_key' hL its [] h (by simp) List.Pairwise.nil
  refine (ascOf_eq a fun q => ?_).symm
  have := b q
  simpa using this
theorem insI_len (row : List Im) (it : Im) : (insI row it).length ≤ row.length + 1 := by
  unfold insI
  split
  · omega
  · simp only [List.length_append, List.length_take, List.length_drop, List.length_cons, List.length_nil]
    omega
theorem sortI_len : ∀ (its row : List Im), (its.foldl insI row).length ≤ row.length + its.length
  | [], row => Nat.le_refl _
  | it :: r, row => by
    have h1 := sortI_len r (insI row it)
    have h2 := insI_len row it
    simp only [List.foldl_cons, List.length_cons] at h1 ⊢
    omega
/-- the corners, as items -/
def hullI (L : Nat) (its : List Im) : List Im := hull (tI L) (sortI its)
theorem hullI_is {L : Nat} {its : List Im} {pts : List (List Int)} (hL : L = scl pts) (h0 : 0 < L) (hp : its.map Prod.snd = pts) (h : ∀ m ∈ its, Pk L m.2) : (hullI L its).map Prod.snd = hullOf pts := by
  unfold hullOf
  have e1 : (hullI L its).map (keyI L) = hl (pts.map (fsc L)) := by
    unfold hullI
    rw [← hull_map (t := tI L) (u := gone) (g := keyI L) (fun _ _ _ => rfl), sortI_key h0 h]
    have : its.map (keyI L) = pts.map (fsc L) := by rw [← hp, List.map_map]; rfl
    rw [this]
    rfl
  rw [← hL, ← e1, List.map_map]
  refine List.map_congr_left fun m hm => ?_
  have := h m (sortI_mem (hull_mem' hm))
  exact (pk_back h0 this).symm
end K05
namespace K05
open PySem L2 Ur Hull
theorem accF_map {α β : Type} (f : Nat → Bool) (g : α → β) (xs : List α) : ∀ i, accF f (xs.map g) i = (accF f xs i).map g
  | 0 => rfl
  | i + 1 => by
    have e1 : accF f (xs.map g) (i + 1) = if f i then accF f (xs.map g) i ++ ((xs.map g)[i]?).toList else accF f (xs.map g) i := rfl
    have e2 : accF f xs (i + 1) = if f i then accF f xs i ++ (xs[i]?).toList else accF f xs i := rfl
    rw [e1, e2, accF_map f g xs i, List.getElem?_map]
    split
    · rw [List.map_append]
      cases xs[i]? <;> rfl
    · rfl
theorem accF_filter {α : Type} {f : Nat → Bool} {g : α → Bool} {xs : List α} (h : ∀ i x, xs[i]? = some x → f i = g x) : ∀ i, i ≤ xs.length → accF f xs i = (xs.take i).filter g
  | 0, _ => by simp [accF]
  | i + 1, hi => by
    have hx : xs[i]? = some xs[i] := List.getElem?_eq_getElem (by omega)
    have e2 : accF f xs (i + 1) = if f i then accF f xs i ++ (xs[i]?).toList else accF f xs i := rfl
    rw [e2, accF_filter h i (by omega), take_next hx, List.filter_append, h i _ hx, hx]
    cases hg : g xs[i] with
    | true => rw [if_pos rfl, List.filter_cons_of_pos hg]; rfl
    | false => rw [if_neg (by simp), List.filter_cons_of_neg (by simp [hg])]; simp
theorem dpAll_items {K : PySem.W.Frag} {H : Hp} : ∀ {row : List Im}, (∀ m ∈ row, Tp K H m.1 m.2) → DpAll K H (row.map Prod.fst) (row.map fun m => tupD m.2)
  | [], _ => .nil
  | m :: r, h => .cons (h m List.mem_cons_self).dp (dpAll_items fun x hx => h x (List.mem_cons_of_mem _ hx))
theorem shaped_list (pts : List (List Int)) : SeqAt.shaped (.list (pts.map tupD)) = true := by
  unfold SeqAt.shaped
  show (PyData.canLayAll0 (pts.map tupD) && decide (PyData.depthAll (pts.map tupD) + 1 ≤ 64)) = true
  have := depth_tups pts
  rw [lay_tups, decide_eq_true (by omega)]
  rfl
theorem any_mem (p : List Int) : ∀ row : List Im, (row.map fun m => tupD m.2).any (fun z => PyData.eqv z (tupD p)) = decide (p ∈ row.map Prod.snd)
  | [] => rfl
  | m :: r => by
    have e : PyData.eqv (tupD m.2) (tupD p) = decide (m.2 = p) := eqv_ints m.2 p
    rw [List.map_cons, List.any_cons, e, any_mem p r, List.map_cons]
    by_cases c : m.2 = p
    · rw [decide_eq_true c, Bool.true_or]
      exact (decide_eq_true (by rw [c]; exact List.mem_cons_self)).symm
    · rw [decide_eq_false c, Bool.false_or]
      refine decide_eq_decide.mpr ⟨fun h => List.mem_cons_of_mem _ h, fun h => ?_⟩
      rcases List.mem_cons.mp h with e | k
      · exact absurd e.symm c
      · exact k
def spSorted (K : PySem.W.Frag) : Sp := fun vs H Q _ => ∃ (a : Addr) (its : List Im) (L : Nat), vs = [.ref a] ∧ SqL K H a (its.map Prod.fst) ∧ (∀ m ∈ its, Tp K H m.1 m.2 ∧ Pk L m.2) ∧ its.length ≤ 100 ∧ ∀ l H', H l = none → Same H H' → H' l = some (.lst ((sortI its).map Prod.fst)) → Q (.ref l) H'
section
variable {P' : Program} {w : World} {K :
      PySem.W.Frag} {mg : Str → Option Value} {base : Heap}
abbrev n_lsorted : List Str := ["_law_spots", "_law_row", "_law_spot_here", "_law_mate"]
abbrev p_lspots : List Str := ["_law_spots"]
theorem sc_lsorted : FnScope n_lsorted p_lspots (defScope sLSorted) := ⟨rfl, rfl, rfl, by decide +kernel, rfl, by decide +kernel, by decide +kernel⟩
theorem w100 : CB ≤ WB := cb_wb
theorem ok_lsorted {f : Addr} {fd : FuncData} (F : Fun K "_law_sorted" "_law_sorted" sLSorted f fd) (T : Bl mg) (H_law_before : Has P' w K mg base "_law_before" p_lway 5 (spBef K)) : FnOk P' w K mg base CX0 6 f fd p_lspots (spSorted K) := by
  refine F.ok sc_lsorted (fun vs H Q E h => ?_) (fun cdv A outer s H vs Q E hr h => ?_)
  · obtain ⟨_, _, _, rfl, _⟩ := h
    rfl
  · obtain ⟨a, its, L, rfl, hS, hI, hz, q⟩ := h
    have hu5 : (A.deeper (PyProof.Rows.envOfC "_law_sorted" (defScope sLSorted) s.heap.objs.size f cdv)).units + 65 < cLine := by have := hr.un; omega
    refine ⟨_, (pss_cons (ps_set (i := 1) sc_lsorted.nd rfl (Or.inl rfl) (pe_lst pa_nil))
      (pss_cons (ps_for PassesOwn.never rfl (pi_list (pv 0)) (pg_name (i := 2) sc_lsorted.nd rfl (Or.inr rfl)) (pss_one (ps_if (pt_cmpR (notInD_K (K := K) rfl hu5) (pv 2) (pv 1) (by rfl)) (pss_one (ps_expr (pe_bm PySem.F.plainAttrs_list PySem.F.slot_list_insert PySem.F.type_list_insert mt_insert (pv 1) (pa_cons (pe_callB (r := Ur.rLen K) Ur.len_seq (by rfl) T.len PySem.boot_len (pa_cons (pe_lc (own := [("_law_mate", 3)]) (g := gName 3) rfl sc_lsorted.nd (pi_list (pv 1)) (blkOk_by (N := n_lsorted) (sc := defScope sLSorted) (by decide +kernel)) (fun _ _ _ _ _ => pg_name (i := 3) sc_lsorted.nd rfl (Or.inl rfl)) (fun _ _ _ _ _ => pts_one (pt_val (pe_has H_law_before (hr.mono (by decide)) (by rfl) (pa_cons (pv 3) (pa_cons (pv 2) pa_nil))))) (fun _ _ _ _ _ => (pv 3))) pa_nil)) (pa_cons (pv 2) pa_nil))))) pss_nil)))
      (pss_one (ps_ret (pv 1))))), ?_⟩
    refine ⟨by show 0 ≤ sizeLine; decide, fun l hl => ?_⟩
    refine ⟨_, rfl, a, rfl, ⟨_, (same_new hl).seq hS⟩, for_list (K := K) (a := a) (xs := its.map Prod.fst) (fun i σ H' => ∃ v : Option V, σ = [some (.ref a), some (.ref l), v, none] ∧ Same H H' ∧ H' l = some (.lst ((sortI (its.take i)).map Prod.fst))) ⟨none, rfl, same_new hl, upd_same⟩ (fun i σ H' _ ⟨_, _, sm, _⟩ => sm.seq hS) ?_ ?_⟩
    · rintro i x σ H' hi ⟨v, rfl, sm, hk⟩
      obtain ⟨it, hit, rfl⟩ : ∃ it, its[i]? = some it ∧ x = it.1 := by
        rw [List.getElem?_map] at hi
        cases e : its[i]? with
        | none => rw [e] at hi; cases hi
        | some it => rw [e] at hi; exact ⟨it, rfl, (Option.some.inj hi).symm⟩
      have hm := hI it (List.mem_of_getElem? hit)
      have hrow : ∀ m ∈ sortI (its.take i), Tp K H m.1 m.2 ∧ Pk L m.2 := fun m hm => hI m (List.mem_of_mem_take (sortI_mem hm))
      have hrl : (sortI (its.take i)).length ≤ 100 := by
        have := sortI_len (its.take i) []
        have h2 : (its.take i).length ≤ 100 := by rw [List.length_take]; omega
        have e : sortI (its.take i) = (its.take i).foldl insI [] := rfl
        rw [e]
        simp only [List.length_nil] at this
        omega
      have hnx := sortI_next hit
      generalize sortI (its.take i) = row at hk hrow hrl hnx
      have tm := hm.1.same sm
      have da : DpAll K H' (row.map Prod.fst) ((row.map Prod.snd).map tupD) := by
        have := dpAll_items (K := K) (H := H') (row := row) fun m hm => (hrow m hm).1.same sm
        rw [List.map_map]
        exact this
      refine ⟨_, rfl, _, rfl, _, _, tm.dp, dp_list hk da, shaped_ints _, shaped_list _, _, rfl, ?_⟩
      have ea : ((row.map Prod.snd).map tupD).any (fun z => PyData.eqv z (tupD it.2)) = decide (it.2 ∈ row.map Prod.snd) := by
        rw [List.map_map]
        exact any_mem it.2 row
      rw [show (PyData.tuple (it.2.map PyData.int)) = tupD it.2 from rfl, ea]
      refine ite2 (fun c
            => ?_) (fun c => ?_)
      · have hn : it.2 ∉ row.map Prod.snd := by simpa using c
        have ei : insI row it = row.take (cntI row it) ++ [it] ++ row.drop (cntI row it) := by unfold insI; rw [if_neg hn]
        refine ⟨_, rfl, Or.inl ⟨rfl, _, SqL.of hk⟩, ?_⟩
        unfold tCons tCB
        dsimp only
        refine lcLf (K := K) (a := l) (xs := row.map Prod.fst) (fun j => befL (row.getD j it).2 it.2) (fun R r => ⟨_, rfl, r⟩) (SqL.of hk) (by rw [List.length_map]; omega) (fun _ => rfl) (fun j y H3 hj s3 Q' q' => ?_) (fun j y H3 Q' q' => ⟨_, rfl, q'⟩) (fun D H3 hD s3 hy => ?_)
        · obtain ⟨m, hm1, rfl⟩ : ∃ m, row[j]? = some m ∧ y = m.1 := by
            rw [List.getElem?_map] at hj
            cases e : row[j]? with
            | none => rw [e] at hj; cases hj
            | some it => rw [e] at hj; exact ⟨it, rfl, (Option.some.inj hj).symm⟩
          have gm : row.getD j it = m := by rw [List.getD_eq_getElem?_getD, hm1]; rfl
          have hrm := hrow m (List.mem_of_getElem? hm1)
          obtain ⟨x1, y1, w1, A1⟩ := hrm.2.pt
          obtain ⟨x2, y2, w2, A2⟩ := hm.2.pt
          rw [gm] at q'
          exact ⟨_, rfl, _, rfl, m.1, it.1, m.2, it.2, _, _, _, _, _, _, CB, CB, rfl, (hrm.1.same sm).same s3, tm.same s3, A1, A2, w100, w100, fun H4 s4 => ⟨_, rfl, q' H4 s4⟩⟩
        · have ec : (accF (fun j => befL (row.getD j it).2 it.2) (row.map Prod.fst) (row.map Prod.fst).length).length = cntI row it := by
            rw [accF_map, List.length_map, List.length_map, accF_filter (g := fun m => befL m.2 it.2) (fun j x hj => by rw [List.getD_eq_getElem?_getD, hj]; rfl) _ (Nat.le_refl _), List.take_length]
            rfl
          have hcl : cntI row it ≤ row.length := List.length_filter_le _ _
          refine ⟨D, _, rfl, Or.inl (SqL.of hy), ?_⟩
          rw [ec]
          refine ⟨_, rfl, l, _, ((cntI row it : Nat) : Int), it.1, rfl, rfl, s3 _ _ hk, ?_, by omega, by omega, _, rfl, same_own (sm.trans s3) hl, ?_⟩
          · rw [List.length_map]
            exact Nat.lt_of_le_of_lt hrl (by decide)
          · rw [upd_same, hnx, ei, Int.toNat_natCast]
            simp [List.map_take, List.map_drop]
      · have hn : it.2 ∈ row.map Prod.snd := by
          refine Classical.byContradiction fun z => c ?_
          rw [decide_eq_false z]
          rfl
        have ei : insI row it = row := by unfold insI; rw [if_pos hn]
        exact ⟨_, rfl, sm, by rw [hnx, ei]; exact hk⟩
    · rintro σ H' ⟨v, rfl, sm, hk⟩
      rw [List.length_map, List.take_length] at hk
      exact ⟨_, rfl, q l H' hl sm hk⟩
end
end K05
namespace K05
open PySem L2 Ur Hull
theorem hull_short {α : Type} (t : α → α → α → Bool) {l : List α} (h : l.length < 3) : hull t l = l := by
  match l, h with
  | [], _ => rfl
  | [_], _ => rfl
  | [_, _], _ => rfl
def rowK (row : List Im) (i : Nat) : List Im := if i = 0 then row else row.reverse
def fndI (L : Nat) (row : List Im) : Nat → List V
  | 0 => []
  | i + 1 => fndI L row i ++ (bends (tI L) (rowK row i)).dropLast.map Prod.fst
def spLHull (K : PySem.W.Frag) : Sp := fun vs H Q _ => ∃ (a : Addr) (its : List Im) (L : Nat), vs = [.ref a] ∧ SqL K H a (its.map Prod.fst) ∧ (∀ m ∈ its, Tp K H m.1 m.2 ∧ Pk L m.2) ∧ its.length ≤ 100 ∧ 0 < L ∧
  ∀ (r : Addr) H', Same H H' → SqT K H' r ((hullI L its).map Prod.fst) → Q (.ref r) H'
theorem bends_len {α : Type} (t : α → α → α → Bool) (l : List α) : (bends t l).length ≤ l.length := by
  unfold bends
  rw [List.length_reverse]
  have : (Hull.stack t l).length ≤ 0 + l.length := stack_len (t := t) l []
  omega
section
variable {P' : Program} {w : World} {K :
      PySem.W.Frag} {mg : Str → Option Value} {base : Heap}
abbrev n_lhull : List Str := ["_law_spots", "_law_row", "_law_found", "_law_side_here", "_law_chain", "_law_spot_here"]
theorem sc_lhull : FnScope n_lhull p_lspots (defScope sLHull) := ⟨rfl, rfl, rfl, by decide +kernel, rfl, by decide +kernel, by decide +kernel⟩
set_option
      maxHeartbeats 1000000 in
theorem ok_lhull {f : Addr} {fd : FuncData} (F : Fun K "_law_hull" "_law_hull" sLHull f fd) (T : Bl mg) (H_law_sorted : Has P' w K mg base "_law_sorted" p_lspots 6 (spSorted K)) (H_law_side : Has P' w K mg base "_law_side" p_lside 5 (spLSide K)) : FnOk P' w K mg base CX0 7 f fd p_lspots (spLHull K) := by
  refine F.ok sc_lhull (fun vs H Q E h => ?_) (fun cdv A outer s H vs Q E hr h => ?_)
  · obtain ⟨_, _, _, rfl, _⟩ := h
    rfl
  · obtain ⟨a, its, L, rfl, hS, hI, hz, hL, q⟩ := h
    refine ⟨_, (pss_cons (ps_set (i := 1) sc_lhull.nd rfl (Or.inl rfl) (pe_has H_law_sorted (hr.mono (by decide)) (by rfl) (pa_cons (pv 0) pa_nil)))
      (pss_cons (ps_if (pt_cmpR op_lt (pe_callB (r := Ur.rLen K) Ur.len_seq (by rfl) T.len PySem.boot_len (pa_cons (pv 1) pa_nil)) pe_int (nomark _)) (pss_one (ps_ret (pe_callTy call_tuple_of (by rfl) T.tuple PyProof.Rows.boot_tuple (pa_cons (pv 1) pa_nil)))) pss_nil)
      (pss_cons (ps_set (i := 2) sc_lhull.nd rfl (Or.inl rfl) (pe_lst pa_nil))
      (pss_cons (ps_for PassesOwn.never rfl (pi_list (pe_lst (pa_cons (pv 1) (pa_cons (pe_revL (pv 1)) pa_nil)))) (pg_name (i := 3) sc_lhull.nd rfl (Or.inl rfl)) (pss_cons (ps_set (i := 4) sc_lhull.nd rfl (Or.inl rfl) (pe_lst pa_nil))
      (pss_cons (ps_for PassesOwn.never rfl (pi_list (pv 3)) (pg_name (i := 5) sc_lhull.nd rfl (Or.inl rfl)) (pss_cons (ps_while PassesOwn.never (PW.pt (pw_and (pt_cmpR op_gt (pe_callB (r := Ur.rLen K) Ur.len_seq (by rfl) T.len PySem.boot_len (pa_cons (pv 4) pa_nil)) pe_int (nomark _)) (pw_and1 (pt_cmpR op_le (pe_has H_law_side (hr.mono (by decide)) (by rfl) (pa_cons (pe_ix (r := rIxL K) ix_list (pv 4) (pe_un un_neg pe_int) (fun _ _ => rfl)) (pa_cons (pe_ix (r := rIxL K) ix_list (pv 4) (pe_un un_neg pe_int) (fun _ _ => rfl)) (pa_cons (pv 5) pa_nil)))) pe_int (nomark _))))) (pss_one (ps_expr (pe_bm0 PySem.F.plainAttrs_list PySem.F.slot_list_pop PySem.F.type_list_pop mt_pop (pv 4)))))
      (pss_one (ps_expr (pe_bm PySem.F.plainAttrs_list PySem.F.slot_list_append PySem.F.type_list_append mt_append (pv 4) (pa_cons (pv 5) pa_nil))))))
      (pss_one (ps_set (i := 2) sc_lhull.nd rfl (Or.inl rfl) (pe_op op_cat (pv 2) (pe_slice sl_list (pv 4) po_none (po_some (pe_un un_neg pe_int)))))))))
      (pss_one (ps_ret (pe_callTy call_tuple_of (by rfl) T.tuple PyProof.Rows.boot_tuple (pa_cons (pv 2) pa_nil)))))))), ?_⟩
    refine ⟨_, rfl, a, its, L, rfl, hS, hI, hz, fun l H1 hl s1 h1 => ?_⟩
    obtain ⟨row, hrow⟩ : ∃ row, row = sortI its := ⟨_, rfl⟩
    have hq : hullI L its = hull (tI L) row := by rw [hrow]; rfl
    have hm : ∀ m ∈ row, Tp K H m.1 m.2 ∧ Pk L m.2 := fun m h => hI m (sortI_mem (hrow ▸ h))
    have hrl : row.length ≤ 100 := by
      have := sortI_len its []
      have e : sortI its = its.foldl insI [] := rfl
      rw [hrow, e]
      simp only [List.length_nil] at this
      omega
    rw [← hrow] at h1
    rw [hq] at q
    refine ⟨_, rfl, l, _, rfl, Or.inl (SqL.of h1), _, _, rfl, rfl, _, rfl, ?_⟩
    rw [List.length_map]
    refine ite2 (fun c
          => ?_) (fun c => ?_)
    · have h3 : row.length < 3 := by have := of_decide_eq_true c; omega
      rw [hull_short (tI L) h3] at q
      exact ⟨_, rfl, l, _, rfl, Or.inl ⟨SqL.of h1, fun r hr => q r _ (s1.trans (same_new hr)) (SqT.of upd_same)⟩⟩
    · have h3 : ¬ row.length < 3 := fun z => c (decide_eq_true (by omega))
      have eh : (hull (tI L) row).map Prod.fst = fndI L row 2 := by
        unfold hull
        rw [if_neg (by omega)]
        show _ = (([] ++ (bends (tI L) row).dropLast.map Prod.fst) ++ (bends (tI L) row.reverse).dropLast.map Prod.fst)
        rw [List.map_append, List.nil_append]
      rw [eh] at q
      refine ⟨by show 0 ≤ sizeLine; decide, fun fl hfl => ?_⟩
      have s2 := s1.trans (same_new (p := fl) (o := HO.lst []) hfl)
      have h2 : (upd H1 fl (.lst [])) l = some (.lst (row.map Prod.fst)) := same_new hfl _ _ h1
      have hf2 : (upd H1 fl (.lst [])) fl = some (.lst []) := upd_same
      generalize upd H1 fl (.lst []) = H2 at s2 h2 hf2
      refine ⟨_, rfl, _, rfl, l, _, rfl, SqL.of h2, fun lr hlr => ⟨by show 2 ≤ sizeLine; decide, fun ld hld => ?_⟩⟩
      have s3 := (s2.trans (same_new (p := lr) (o := HO.lst (row.map Prod.fst).reverse) hlr)).trans (same_new (p := ld) (o := HO.lst [V.ref l, .ref lr]) hld)
      have hl3 := same_new (p := ld) (o := HO.lst [V.ref l, .ref lr]) hld _ _ (same_new (p := lr) (o := HO.lst (row.map Prod.fst).reverse) hlr _ _ h2)
      have hlr3 := same_new (p := ld) (o := HO.lst [V.ref l, .ref lr]) hld _ _ (upd_same (H := H2) (a := lr) (o := HO.lst (row.map Prod.fst).reverse))
      have hf3 := same_new (p := ld) (o := HO.lst [V.ref l, .ref lr]) hld _ _ (same_new (p := lr) (o := HO.lst (row.map Prod.fst).reverse) hlr _ _ hf2)
      have hld3 : (upd (upd H2 lr (.lst (row.map Prod.fst).reverse)) ld (.lst [V.ref l, .ref lr])) ld = some (.lst [V.ref l, .ref lr]) := upd_same
      generalize upd (upd H2 lr (.lst (row.map Prod.fst).reverse)) ld (.lst [V.ref l, .ref lr]) = H3 at s3 hl3 hlr3 hf3 hld3
      refine ⟨ld, rfl, ⟨_, SqL.of hld3⟩, for_list (K := K) (a := ld) (xs := [V.ref l, .ref lr]) (fun i σ H' => ∃ (fa : Addr) (o3 o4 o5 : Option V), σ = [some (.ref a), some (.ref l), some (.ref fa), o3, o4, o5] ∧ Same H3 H' ∧ H' fa = some (.lst (fndI L row i))) ⟨fl, none, none, none, rfl, Same.refl _, hf3⟩ (fun i σ H' _ ⟨_, _, _, _, _, sm, _⟩ => sm.seq (SqL.of hld3)) ?_ ?_⟩
      · rintro i x σ H' hi ⟨fa, o3, o4, o5, rfl, sm, hfa⟩
        obtain ⟨ad, rfl, had⟩ : ∃ ad, x = .ref ad ∧ H' ad = some (.lst ((rowK row i).map Prod.fst)) := by
          match i, hi with
          | 0, hi => exact ⟨l, (Option.some.inj hi).symm, sm _ _ hl3⟩
          | 1, hi => exact ⟨lr, (Option.some.inj hi).symm, by
              have e : (rowK row 1).map Prod.fst = (row.map Prod.fst).reverse := by rw [← List.map_reverse]; rfl
              rw [e]
              exact sm _ _ hlr3⟩
        have hmk : ∀ m ∈ rowK row i, Tp K H' m.1 m.2 ∧ Pk L m.2 := fun m h => by
          have : m ∈ row := by
            unfold rowK at h
            split at h
            · exact h
            · exact List.mem_reverse.mp h
          exact ⟨((hm m this).1.same s3).same sm, (hm m this).2⟩
        have hkl : (rowK row i).length ≤ 100 := by
          unfold rowK
          split
          · exact hrl
          · rw [List.length_reverse]; exact hrl
        have hnext : fndI L row (i + 1) = fndI L row i ++ (bends (tI L) (rowK row i)).dropLast.map Prod.fst := rfl
        have hfl' : (fndI L row i).length ≤ 200 := by
          match i, hi with
          | 0, _ => exact Nat.zero_le _
          | 1, _ =>
            show ([] ++ (bends (tI L) row).dropLast.map Prod.fst).length ≤ 200
            have := bends_len (tI L) row
            rw [List.nil_append, List.length_map, List.length_dropLast]
            omega
        generalize rowK row i = rk at had hmk hkl hnext
        refine ⟨by show 0 ≤ sizeLine; decide, fun lc hlc => ?_⟩
        have sc1 := same_new (p := lc) (o := HO.lst []) hlc
        refine ⟨_, rfl, ad, rfl, ⟨_, SqL.of (sc1 _ _ had)⟩, for_list (K := K) (a := ad) (xs := rk.map Prod.fst) (fun j σ H'' => ∃ o5 : Option V, σ = [some (.ref a), some (.ref l), some (.ref fa), some (.ref ad), some (.ref lc), o5] ∧ Same H' H'' ∧ H'' lc = some (.lst ((Hull.stack (tI L) (rk.take j)).map Prod.fst).reverse)) ⟨o5, rfl, sc1, upd_same⟩ (fun j σ H'' _ ⟨_, _, sm, _⟩ => SqL.of (sm _ _ had)) ?_ ?_⟩
        · rintro j x σ H'' hj ⟨o5', rfl, s4, hk⟩
          obtain ⟨it, hit, rfl⟩ : ∃ it, rk[j]? = some it ∧ x = it.1 := by
            rw [List.getElem?_map] at hj
            cases e : rk[j]? with
            | none => rw [e] at hj; cases hj
            | some it => rw [e] at hj; exact ⟨it, rfl, (Option.some.inj hj).symm⟩
          have hx := hmk it (List.mem_of_getElem? hit)
          have hst : ∀ y ∈ Hull.stack (tI L) (rk.take j), Tp K H' y.1 y.2 ∧ Pk L y.2 := fun y hy => hmk y (List.mem_of_mem_take (stack_mem hy))
          have hsl : (Hull.stack (tI L) (rk.take j)).length ≤ 100 := by
            have : (Hull.stack (tI L) (rk.take j)).length ≤ 0 + (rk.take j).length := stack_len (t := tI L) (rk.take j) []
            rw [List.length_take] at this
            omega
          have hnx := stack_next (t := tI L) hit
          generalize Hull.stack (tI L) (rk.take j) = st0 at hk hst hsl hnx
          refine ⟨fun m σ H4 => ∃ st, st.length = m ∧ σ = [some (.ref a), some (.ref l), some (.ref fa), some (.ref ad), some (.ref lc), some it.1] ∧ Same H' H4 ∧ H4 lc = some (.lst (st.map Prod.fst).reverse) ∧ popw (tI L) it st = popw (tI L) it st0 ∧ (∀ y ∈ st, Tp K H' y.1 y.2 ∧ Pk L y.2) ∧ st.length ≤ 100, ⟨_, st0, rfl, rfl, s4, hk, rfl, hst, hsl⟩, ?_⟩
          rintro m σ H4 ⟨st, rfl, rfl, s5, h5, ep, hst2, hl2⟩
          refine ⟨_, rfl, lc, _, rfl, Or.inl (SqL.of h5), ?_⟩
          rw [List.length_reverse, List.length_map]
          match st, ep, hst2, hl2, h5 with
          | [], ep, hst2, hl2, h5 =>
            refine ⟨_, _, rfl, rfl, _, rfl, ?_⟩
            refine ite2 (fun c => absurd (of_decide_eq_true c) (by decide)) (fun _ => ?_)
            exact ⟨_, rfl, Or.inl ⟨rfl, _, SqL.of h5⟩, _, rfl, lc, _, _, rfl, rfl, h5, by show 0 < sizeLine; decide, some it.1, rfl, same_own s5 hlc, by rw [upd_same, hnx, ← ep]; rfl⟩
          | [b], ep, hst2, hl2, h5 =>
            refine ⟨_, _, rfl, rfl, _, rfl, ?_⟩
            refine ite2 (fun c => absurd (of_decide_eq_true c) (by simp)) (fun _ => ?_)
            exact ⟨_, rfl, Or.inl ⟨rfl, _, SqL.of h5⟩, _, rfl, lc, _, _, rfl, rfl, h5, by show 1 < sizeLine; decide, some it.1, rfl, same_own s5 hlc, by rw [upd_same, hnx, ← ep]; rfl⟩
          | b :: c :: r, ep, hst2, hl2, h5 =>
            have er : ((b :: c :: r).map Prod.fst).reverse = (r.map Prod.fst).reverse ++ [c.1] ++ [b.1] := by simp
            rw [er] at h5
            have hb := hst2 b List.mem_cons_self
            have hc := hst2 c (List.mem_cons_of_mem _ List.mem_cons_self)
            have ei : popw (tI L) it (b :: c :: r) = if tI L c b it then popw (tI L) it (c :: r) else b :: c :: r := rfl
            obtain ⟨x1, y1, w1, A1⟩ := hc.2.pt
            obtain ⟨x2, y2, w2, A2⟩ := hb.2.pt
            obtain ⟨x3, y3, w3', A3⟩ := hx.2.pt
            refine ⟨_, _, rfl, rfl, _, rfl, ?_⟩
            refine ite2 (fun _ => ?_) (fun d => absurd (decide_eq_true (by simp only [List.length_cons]; omega)) d)
            refine ⟨_, rfl, _, rfl, lc, _, _, c.1, rfl, rfl, SqL.of h5, atI_two _ _ _, _, rfl, _, rfl, lc, _, _, b.1, rfl, rfl, SqL.of h5, atI_last _ _, _, rfl, c.1, b.1, it.1, c.2, b.2, it.2, _, _, _, _, _, _, _, _, _, CB, rfl, hc.1.same s5, hb.1.same s5, hx.1.same s5, A1, A2, A3, Nat.le_refl _, fun H6 s6 => ⟨_, _, rfl, rfl, _, rfl, ?_⟩⟩
            have eg : decide (sidL c.2 b.2 it.2 ≤ 0) = tI L c b it := sid_gone hL hc.2 hb.2 hx.2
            rw [eg]
            have s56 := s5.trans s6
            have h6 := s6 _ _ h5
            refine ite2 (fun d => ?_) (fun d => ?_)
            · have e2 : popw (tI L) it (c :: r) = popw (tI L) it st0 := by
                rw [← ep, ei, if_pos d]
              refine ⟨fun σ' H' => σ' = [some (.ref a), some (.ref l), some (.ref fa), some (.ref ad), some (.ref lc), some it.1] ∧ Same _ H' ∧ H' lc = some (.lst ((c :: r).map Prod.fst).reverse), fun σ' H' ⟨g1, g2, g3⟩ => ⟨(c :: r).length, by simp, c :: r, rfl, g1, g2, g3, e2, fun y hy => hst2 y (List.mem_cons_of_mem _ hy), by simp only [List.length_cons] at hl2 ⊢; omega⟩, ?_⟩
              exact ⟨_, rfl, Or.inl ⟨rfl, _, SqL.of h6⟩, lc, _, b.1, rfl, rfl, h6, by simp, rfl, same_own s56 hlc, by rw [upd_same, List.dropLast_concat]; simp⟩
            · have e2 : b :: c :: r = popw (tI L) it st0 := by
                rw [← ep, ei, if_neg d]
              refine ⟨_, rfl, Or.inl ⟨rfl, _, SqL.of h6⟩, _, rfl, lc, _, _, rfl, rfl, h6, ?_, some it.1, rfl, same_own s56 hlc, by rw [upd_same, hnx, ← e2]; simp⟩
              refine Nat.lt_of_le_of_lt (?_ : _ ≤ 1000) (by decide)
              simp only [List.length_append, List.length_reverse, List.length_cons, List.length_nil, List.length_map] at hl2 ⊢
              omega
        · rintro σ H'' ⟨o5', rfl, s4, hk⟩
          rw [List.length_map, List.take_length] at hk
          refine ⟨_, rfl, _, rfl, 1, rfl, -1, rfl, lc, _, rfl, SqL.of hk, fun p hp => ?_⟩
          rw [cut_last]
          have eb : ((Hull.stack (tI L) rk).map Prod.fst).reverse.dropLast = (bends (tI L) rk).dropLast.map Prod.fst := by
            unfold bends
            rw [← List.map_reverse, List.map_dropLast]
          rw [eb]
          have hbl := bends_len (tI L) rk
          have s6 := s4.trans (same_new (p := p) (o := HO.lst ((bends (tI L) rk).dropLast.map Prod.fst)) hp)
          refine ⟨_, _, _, _, rfl, rfl, s6 _ _ hfa, upd_same, ?_, fun p2 hp2 => ⟨p2, _, _, _, rfl, sm.trans (s6.trans (same_new hp2)), by rw [upd_same, hnext]⟩⟩
          rw [List.length_map, List.length_dropLast]
          exact Nat.le_trans (by omega : _ ≤ 400) (by decide)
      · rintro σ H' ⟨fa, o3, o4, o5, rfl, sm, hfa⟩
        exact ⟨_, rfl, fa, _, rfl, Or.inl ⟨SqL.of hfa, fun r hr => q r _ ((s3.trans sm).trans (same_new hr)) (SqT.of upd_same)⟩⟩
end
end K05
namespace K05
open PySem L2 Ur Hull
theorem thin2_mul {x w k : Int} (hk : 0 < k) (hw : 0 < w) : thin [k * x, k * w] = thin [x, w] := by
  obtain ⟨g, p, r, g0, e1, e2, e3, e4⟩ := thin2 (x := x) hw
  obtain ⟨g', p', r', g0', e1', e2', e3', e4'⟩ := thin2 (x := k * x) (w := k * w) (Int.mul_pos hk hw)
  rw [e3, e3']
  have r0 := pos_of g0 (e2 ▸ hw)
  have r0' := pos_of g0' (e2' ▸ Int.mul_pos hk hw)
  -- p / r = p' / r', both reduced
  have cr : p' * r = p * r' := by
    have h1 : g' * p' * (g * r) = k * x * w := by rw [← e1', ← e2]
    have h2 : g' * r' * (g * p) = k * w * x := by rw [← e2', ← e1]
    have h3 : (g' * g) * (p' * r) = (g' * g) * (p * r') := by grind
    exact Int.eq_of_mul_eq_mul_left (by have := Int.mul_pos g0' g0; omega) h3
  have d1 : r'.natAbs ∣ r.natAbs := by
    have : r'.natAbs ∣ p'.natAbs * r.natAbs := by
      rw [← Int.natAbs_mul, cr, Int.natAbs_mul]
      exact Nat.dvd_mul_left _ _
    exact (Nat.Coprime.symm e4').dvd_of_dvd_mul_left this
  have d2 : r.natAbs ∣ r'.natAbs := by
    have : r.natAbs ∣ p.natAbs * r'.natAbs := by
      rw [← Int.natAbs_mul, ← cr, Int.natAbs_mul]
      exact Nat.dvd_mul_left _ _
    exact (Nat.Coprime.symm e4).dvd_of_dvd_mul_left this
  have er : r = r' := by
    have := Nat.dvd_antisymm d1 d2
    omega
  subst er
  have : p' = p := Int.eq_of_mul_eq_mul_right (by omega) cr
  rw [this]
theorem fr_add {a b : List Int} {t e u d : Int} {n m : Nat} (A : FrL n a t e) (B : FrL m b u d) : ∃ (g p r : Int), 0 < g ∧ t * d + u * e = g * p ∧ e * d = g * r ∧ FrL (n * m + m * n) (addF a b) p r := by
  have ea := A.eq
  have eb := B.eq
  subst ea eb
  exact fr_thin (Int.mul_pos A.pos B.pos) (addb (mulb A.bt B.bb) (mulb B.bt A.bb)) (Nat.le_trans (mulb A.bb B.bb) (Nat.le_add_right _ _))
theorem FrL.up {n m : Nat} {a : List Int} {t e : Int} (h : FrL n a t e) (k : n ≤ m) : FrL m a t e := ⟨h.eq, h.pos, h.red, Nat.le_trans h.bt k, Nat.le_trans h.bb k⟩
theorem PtL.up {n m : Nat} {a : List Int} {x y w : Int} (h : PtL n a x y w) (k : n ≤ m) : PtL m a x y w := ⟨h.eq, h.pos, h.red, Nat.le_trans h.bx k, Nat.le_trans h.bby k, Nat.le_trans h.bw k⟩
theorem pw2 {n m a b : Nat} (h : n ≤ 2 ^ a) (k : m ≤ 2 ^ b) : n * m + m * n ≤ 2 ^ (a + b + 1) := by
  have h1 : n * m ≤ 2 ^ (a + b) := by rw [Nat.pow_add]; exact Nat.mul_le_mul h k
  have h2 : m * n ≤ 2 ^ (a + b) := by rw [Nat.mul_comm]; exact h1
  rw [Nat.pow_succ]
  omega
theorem pw3 {n m a b : Nat} (h : n ≤ 2 ^ a) (k : m ≤ 2 ^ b) : n * m + n * m ≤ 2 ^ (a + b + 1) := by
  have := pw2 h k
  rw [Nat.mul_comm m n] at this
  exact this
theorem pw1 {n m a b : Nat} (h : n ≤ 2 ^ a) (k : m ≤ 2 ^ b) : n * m ≤ 2 ^ (a + b) := by rw [Nat.pow_add]; exact Nat.mul_le_mul h k
theorem pup {a b : Nat} (h : a ≤ b) : 2 ^ a ≤ 2 ^ b := Nat.pow_le_pow_right (by decide) h
theorem pwb {a : Nat} (h : a ≤ 3000) : 2 ^ a ≤ WB := le_wb (Nat.le_refl _) h
/-! ### points and fractions told by any numbers of their own -/
theorem thin3_mul {x y w k : Int} (hk : 0 < k) (hw : 0 < w) : thin [k * x, k * y, k * w] = thin [x, y, w] := by
  obtain ⟨g, p, q, r, g0, e1, e2, e3, e4, e5⟩ := thin3 (x := x) (y := y) hw
  have r0 := pos_of g0 (by rw [← e3]; exact hw)
  rw [e4, e1, e2, e3, ← Int.mul_assoc, ← Int.mul_assoc, ← Int.mul_assoc]
  exact thin_mul (Int.mul_pos hk g0) r0 e5
structure Q3 (a : List Int) (x y w : Int) : Prop where
  pos : 0 < w
  eq : a = thin [x, y, w]
structure Q2 (a : List Int) (t e : Int) : Prop where
  pos : 0 < e
  eq : a = thin [t, e]
theorem Q3.sc {a : List Int} {x y w k x' y' w' : Int} (h : Q3 a x' y' w') (hk : 0 < k) (ex : x' = k * x) (ey : y' = k * y) (ew : w' = k * w) : Q3 a x y w := by
  subst ex ey ew
  have hw := pos_of hk h.pos
  exact ⟨hw, h.eq.trans (thin3_mul hk hw)⟩
theorem Q3.up {a : List Int} {x y w k x' y' w' : Int} (h : Q3 a x y w) (hk : 0 < k) (ex : x' = k * x) (ey : y' = k * y) (ew : w' = k * w) : Q3 a x' y' w' := by
  subst ex ey ew
  exact ⟨Int.mul_pos hk h.pos, h.eq.trans (thin3_mul hk h.pos).symm⟩
theorem Q2.sc {a : List Int} {t e k t' e' : Int} (h : Q2 a t' e') (hk : 0 < k) (et : t' = k * t) (ee : e' = k * e) : Q2 a t e := by
  subst et ee
  have hw := pos_of hk h.pos
  exact ⟨hw, h.eq.trans (thin2_mul hk hw)⟩
theorem Q2.up {a : List Int} {t e k t' e' : Int} (h : Q2 a t e) (hk : 0 < k) (et : t' = k * t) (ee : e' = k * e) : Q2 a t' e' := by
  subst et ee
  exact ⟨Int.mul_pos hk h.pos, h.eq.trans (thin2_mul hk h.pos).symm⟩
/-- reduced numbers, with the factor -/
theorem Q3.red {a : List Int} {x y w : Int} (h : Q3 a x y w) : ∃ g p q r : Int, 0 < g ∧ x = g * p ∧ y = g * q ∧ w = g * r ∧ a = [p, q, r] ∧ 0 < r := by
  obtain ⟨g, p, q, r, g0, e1, e2, e3, e4, e5⟩ := thin3 (x := x) (y := y) h.pos
  exact ⟨g, p, q, r, g0, e1, e2, e3, h.eq.trans e4, pos_of g0 (by rw [← e3]; exact h.pos)⟩
theorem Q2.red {a : List Int} {t e : Int} (h : Q2 a t e) : ∃ g p r : Int, 0 < g ∧ t = g * p ∧ e = g * r ∧ a = [p, r] ∧ 0 < r := by
  obtain ⟨g, p, r, g0, e1, e3, e4, e5⟩ := thin2 (x := t) h.pos
  exact ⟨g, p, r, g0, e1, e3, h.eq.trans e4, pos_of g0 (by rw [← e3]; exact h.pos)⟩
theorem Q3.way {a b : List Int} {x y w u v z : Int} (A : Q3 a x y w) (B : Q3 b u v z) : Q3 (wayL a b) (u * w - x * z) (v * w - y * z) (w * z) := by
  obtain ⟨g, p, q, r, g0, e1, e2, e3, rfl, r0⟩ := A.red
  obtain ⟨g', p', q', r', g0', e1', e2', e3', rfl, r0'⟩ := B.red
  have h : Q3 (wayL [p, q, r] [p', q', r']) (p' * r - p * r') (q' * r - q * r') (r * r') := ⟨Int.mul_pos r0 r0', rfl⟩
  exact h.up (k := g * g') (Int.mul_pos g0 g0') (by rw [e1, e1', e3, e3']; grind) (by rw [e2, e2', e3, e3']; grind) (by rw [e3, e3']; grind)
theorem Q3.sum {a b : List Int} {x y w u v z : Int} (A : Q3 a x y w) (B : Q3 b u v z) : Q3 (sumL a b) (x * z + u * w) (y * z + v * w) (w * z) := by
  obtain ⟨g, p, q, r, g0, e1, e2, e3, rfl, r0⟩ := A.red
  obtain ⟨g', p', q', r', g0', e1', e2', e3', rfl, r0'⟩ := B.red
  have h : Q3 (sumL [p, q, r] [p', q', r']) (p * r' + p' * r) (q * r' + q' * r) (r * r') := ⟨Int.mul_pos r0 r0', rfl⟩
  exact h.up (k := g * g') (Int.mul_pos g0 g0') (by rw [e1, e1', e3, e3']; grind) (by rw [e2, e2', e3, e3']; grind) (by rw [e3, e3']; grind)
theorem Q3.by_ {a b : List Int} {x y w t e : Int} (A : Q3 a x y w) (B : Q2 b t e) : Q3 (byL a b) (x * t) (y * t) (w * e) := by
  obtain ⟨g, p, q, r, g0, e1, e2, e3, rfl, r0⟩ := A.red
  obtain ⟨g', p', r', g0', e1', e3', rfl, r0'⟩ := B.red
  have h : Q3 (byL [p, q, r] [p', r']) (p * p') (q * p') (r * r') := ⟨Int.mul_pos r0 r0', rfl⟩
  exact h.up (k := g * g') (Int.mul_pos g0 g0') (by rw [e1, e1']; grind) (by rw [e2, e1']; grind) (by rw [e3, e3']; grind)
theorem Q3.crs {a b : List Int} {x y w u v z : Int} (A : Q3 a x y w) (B : Q3 b u v z) : Q2 (crsL a b) (x * v - y * u) (w * z) := by
  obtain ⟨g, p, q, r, g0, e1, e2, e3, rfl, r0⟩ := A.red
  obtain ⟨g', p', q', r', g0', e1', e2', e3', rfl, r0'⟩ := B.red
  have h : Q2 (crsL [p, q, r] [p', q', r']) (p * q' - q * p') (r * r') := ⟨Int.mul_pos r0 r0', rfl⟩
  exact h.up (k := g * g') (Int.mul_pos g0 g0') (by rw [e1, e2, e1', e2']; grind) (by rw [e3, e3']; grind)
theorem Q3.inn {a b : List Int} {x y w u v z : Int} (A : Q3 a x y w) (B : Q3 b u v z) : Q2 (innL a b) (x * u + y * v) (w * z) := by
  obtain ⟨g, p, q, r, g0, e1, e2, e3, rfl, r0⟩ := A.red
  obtain ⟨g', p', q', r', g0', e1', e2', e3', rfl, r0'⟩ := B.red
  have h : Q2 (innL [p, q, r] [p', q', r']) (p * p' + q * q') (r * r') := ⟨Int.mul_pos r0 r0', rfl⟩
  exact h.up (k := g * g') (Int.mul_pos g0 g0') (by rw [e1, e2, e1', e2']; grind) (by rw [e3, e3']; grind)
theorem Q2.add {a b : List Int} {t e u d : Int} (A : Q2 a t e) (B : Q2 b u d) : Q2 (addF a b) (t * d + u * e) (e * d) := by
  obtain ⟨g, p, r, g0, e1, e3, rfl, r0⟩ := A.red
  obtain ⟨g', p', r', g0', e1', e3', rfl, r0'⟩ := B.red
  have h : Q2 (addF [p, r] [p', r']) (p * r' + p' * r) (r * r') := ⟨Int.mul_pos r0 r0', rfl⟩
  exact h.up (k := g * g') (Int.mul_pos g0 g0') (by rw [e1, e1', e3, e3']; grind) (by rw [e3, e3']; grind)
/-- two points told by the same numbers are the same -/
theorem Q3.same {a b : List Int} {x y w : Int} (A : Q3 a x y w) (B : Q3 b x y w) : a = b := A.eq.trans B.eq.symm
theorem Q2.same {a b : List Int} {t e : Int} (A : Q2 a t e) (B : Q2 b t e) : a = b := A.eq.trans B.eq.symm
theorem Q3.of_pt {n : Nat} {a : List Int} {x y w : Int} (h : PtL n a x y w) : Q3 a x y w := ⟨h.pos, by
  rw [h.eq]
  exact (thin_one (by rw [gAll_3]; exact h.red)).symm⟩
theorem Q2.of_fr {n : Nat} {a : List Int} {t e : Int} (h : FrL n a t e) : Q2 a t e := ⟨h.pos, by
  rw [h.eq]
  exact (thin_one (by rw [gAll_2]; exact h.red)).symm⟩
/-- a corner on the scale -/
theorem Q3.of_pk {S : Nat} (h0 : 0 < S) {p : List Int} (h : Pk S p) : Q3 p (fsc S p).1 (fsc S p).2 (S : Nat) := by
  obtain ⟨x, y, w, k, A, k0, hS, e⟩ := pk_form h0 h
  rw [e]
  exact (Q3.of_pt A).up k0 (by simp only; grind) (by simp only; grind) (by rw [hS]; grind)
/-! ### the fan of triangles -/
def sumTo (f : Nat → Int) : Nat → Int
  | 0 => 0
  | j + 1 => sumTo f j + f j
abbrev nthP (l : List P) (i : Nat) : P := l.getD i (0, 0)
/-- twice the triangle of the first corner, number i + 1 and number i + 2 -/
def triA (l : List P) (i : Nat) : Int := ((nthP l (i + 1)).1 - (nthP l 0).1) * ((nthP l (i + 2)).2 - (nthP l 0).2) - ((nthP l (i + 1)).2 - (nthP l 0).2) * ((nthP l (i + 2)).1 - (nthP l 0).1)
def momX (l : List P) (i : Nat) : Int := (((nthP l (i + 1)).1 - (nthP l 0).1) + ((nthP l (i + 2)).1 - (nthP l 0).1)) * triA l i
def momY (l : List P) (i : Nat) : Int := (((nthP l (i + 1)).2 - (nthP l 0).2) + ((nthP l (i + 2)).2 - (nthP l 0).2)) * triA l i
/-- twice the area, and six times the moments about the first corner -/
def areaC (l : List P) : Int := sumTo (triA l) (l.length - 2)
def areaX (l : List P) : Int := sumTo (momX l) (l.length - 2)
def areaY (l : List P) : Int := sumTo (momY l) (l.length - 2)
/-- the middle by numbers -/
structure MidQ (S : Nat) (l : List P) (a : List Int) : Prop where
  q : Q3 a (3 * areaC l * (nthP l 0).1 + areaX l) (3 * areaC l * (nthP l 0).2 + areaY l) (3 * areaC l * (S : Nat))
/-- what the loop holds behind j turns -/
structure FanQ (S : Nat) (l : List P) (j : Nat) (A B : List Int) : Prop where
  t : Q2 A (sumTo (triA l) j) ((S : Int) * S)
  m : Q3 B (sumTo (momX l) j) (sumTo (momY l) j) ((S : Int) * S * S)
theorem FanQ.start {S : Nat} (h0 : 0 < S) (l : List P) : FanQ S l 0 [0, 1] [0, 0, 1] := by
  have hS : (0 : Int) < S := by omega
  have h2 : (0 : Int) < (S : Int) * S := Int.mul_pos hS hS
  have h3 : (0 : Int) < (S : Int) * S * S := Int.mul_pos h2 hS
  have a : Q2 [0, 1] 0 1 := ⟨by decide, (thin_one (by decide)).symm⟩
  have b : Q3 [0, 0, 1] 0 0 1 := ⟨by decide, (thin_one (by decide)).symm⟩
  exact ⟨a.up h2 (by show (0 : Int) = _; omega) (by omega), b.up h3 (by show (0 : Int) = _; omega) (by show (0 : Int) = _; omega) (by omega)⟩
/-- the way from the first corner to another one -/
theorem way_q {S : Nat} (h0 : 0 < S) {p q : List Int} (hp : Pk S p) (hq : Pk S q) : Q3 (wayL p q) ((fsc S q).1 - (fsc S p).1) ((fsc S q).2 - (fsc S p).2) (S : Nat) := by
  have hS : (0 : Int) < S := by omega
  exact ((Q3.of_pk h0 hp).way (Q3.of_pk h0 hq)).sc (k := (S : Int)) hS (by grind) (by grind) rfl
theorem FanQ.next {S : Nat} (h0 : 0 < S) {pts : List (List Int)} {j : Nat} {A B a b c : List Int} (h : FanQ S (pts.map (fsc S)) j A B) (ha : pts[0]? = some a) (hb : pts[j + 1]? = some b) (hc : pts[j + 2]? = some c) (ka : Pk S a) (kb : Pk S b) (kc : Pk S c) :
    FanQ S (pts.map (fsc S)) (j + 1) (addF A (crsL (wayL a b) (wayL a c))) (sumL B (byL (sumL (wayL a b) (wayL a c)) (crsL (wayL a b) (wayL a c)))) := by
  have hS : (0 : Int) < S := by omega
  have h2 : (0 : Int) < (S : Int) * S := Int.mul_pos hS hS
  have h3 : (0 : Int) < (S : Int) * S * S := Int.mul_pos h2 hS
  have na : nthP (pts.map (fsc S)) 0 = fsc S a := by show List.getD _ _ _ = _; rw [List.getD_eq_getElem?_getD, List.getElem?_map, ha]; rfl
  have nb : nthP (pts.map (fsc S)) (j + 1) = fsc S b := by show List.getD _ _ _ = _; rw [List.getD_eq_getElem?_getD, List.getElem?_map, hb]; rfl
  have nc : nthP (pts.map (fsc S)) (j + 2) = fsc S c := by show List.getD _ _ _ = _; rw [List.getD_eq_getElem?_getD, List.getElem?_map, hc]; rfl
  have w1 := way_q h0 ka kb
  have w2 := way_q h0 ka kc
  have cr := w1.crs w2
  have eA : triA (pts.map (fsc S)) j = ((fsc S b).1 - (fsc S a).1) * ((fsc S c).2 - (fsc S a).2) - ((fsc S b).2 - (fsc S a).2) * ((fsc S c).1 - (fsc S a).1) := by unfold triA; rw [na, nb, nc]
  rw [← eA] at cr
  have eX : momX (pts.map (fsc S)) j = (((fsc S b).1 - (fsc S a).1) + ((fsc S c).1 - (fsc S a).1)) * triA (pts.map (fsc S)) j := by unfold momX; rw [na, nb, nc]
  have eY : momY (pts.map (fsc S)) j = (((fsc S b).2 - (fsc S a).2) + ((fsc S c).2 - (fsc S a).2)) * triA (pts.map (fsc S)) j := by unfold momY; rw [na, nb, nc]
  have sm : Q3 (sumL (wayL a b) (wayL a c)) (((fsc S b).1 - (fsc S a).1) + ((fsc S c).1 - (fsc S a).1)) (((fsc S b).2 - (fsc S a).2) + ((fsc S c).2 - (fsc S a).2)) (S : Nat) := (w1.sum w2).sc (k := (S : Int)) hS (by grind) (by grind) rfl
  have bm := sm.by_ cr
  rw [← eX, ← eY] at bm
  have t' := (h.t.add cr).sc (k := (S : Int) * S) (t := sumTo (triA (pts.map (fsc S))) (j + 1)) (e := (S : Int) * S) h2 (by show _ = _ * (sumTo _ j + _); grind) rfl
  have m' := (h.m.sum bm).sc (k := (S : Int) * S * S) (x := sumTo (momX (pts.map (fsc S))) (j + 1)) (y := sumTo (momY (pts.map (fsc S))) (j + 1)) (w := (S : Int) * S * S) h3 (by show _ = _ * (sumTo _ j + _); grind) (by show _ = _ * (sumTo _ j + _); grind) (by grind)
  exact ⟨t', m'⟩
theorem FanQ.end_ {S : Nat} (h0 : 0 < S) {pts : List (List Int)} {A B a : List Int} {t e : Int} {n : Nat} (h : FanQ S (pts.map (fsc S)) (pts.length - 2) A B) (FA : FrL n A t e) (ht : 0 < t) (ha : pts[0]? = some a) (ka : Pk S a) :
    MidQ S (pts.map (fsc S)) (sumL a (byL B (thin [e, 3 * t]))) := by
  have hS : (0 : Int) < S := by omega
  have h2 : (0 : Int) < (S : Int) * S := Int.mul_pos hS hS
  have na : nthP (pts.map (fsc S)) 0 = fsc S a := by show List.getD _ _ _ = _; rw [List.getD_eq_getElem?_getD, List.getElem?_map, ha]; rfl
  have el : (pts.map (fsc S)).length - 2 = pts.length - 2 := by rw [List.length_map]
  obtain ⟨g, p, r, g0, e1, e3, e4, r0⟩ := h.t.red
  have ef := FA.eq.symm.trans e4
  have et : t = p := (List.cons.inj ef).1
  have ee : e = r := (List.cons.inj (List.cons.inj ef).2).1
  subst et ee
  have eC : areaC (pts.map (fsc S)) = g * t := by unfold areaC; rw [el]; exact e1
  have fr : Q2 (thin [e, 3 * t]) ((S : Int) * S) (3 * areaC (pts.map (fsc S))) := by
    have : Q2 (thin [e, 3 * t]) e (3 * t) := ⟨by omega, rfl⟩
    exact this.up g0 e3 (by rw [eC]; grind)
  have eX : areaX (pts.map (fsc S)) = sumTo (momX (pts.map (fsc S))) (pts.length - 2) := by unfold areaX; rw [el]
  have eY : areaY (pts.map (fsc S)) = sumTo (momY (pts.map (fsc S))) (pts.length - 2) := by unfold areaY; rw [el]
  have bm := h.m.by_ fr
  rw [← eX, ← eY] at bm
  have bm' : Q3 (byL B (thin [e, 3 * t])) (areaX (pts.map (fsc S))) (areaY (pts.map (fsc S))) (3 * areaC (pts.map (fsc S)) * S) := bm.sc (k := (S : Int) * S) h2 (by grind) (by grind) (by grind)
  have z := (Q3.of_pk h0 ka).sum bm'
  refine ⟨?_⟩
  rw [na]
  exact z.sc (k := (S : Int)) hS (by grind) (by grind) (by grind)
/-! ### bounds -/
theorem Q3.bd {a : List Int} {x y w : Int} {n : Nat} (h : Q3 a x y w) (hx : x.natAbs ≤ n) (hy : y.natAbs ≤ n) (hw : w.natAbs ≤ n) : ∃ p q r, PtL n a p q r := by
  obtain ⟨g, p, q, r, _, _, _, _, A⟩ := pt_thin h.pos hx hy hw
  exact ⟨p, q, r, h.eq ▸ A⟩
theorem Q2.bd {a : List Int} {t e : Int} {n : Nat} (h : Q2 a t e) (ht : t.natAbs ≤ n) (he : e.natAbs ≤ n) : ∃ p r, FrL n a p r := by
  obtain ⟨g, p, r, _, _, _, A⟩ := fr_thin h.pos ht he
  exact ⟨p, r, h.eq ▸ A⟩
/-- corners with small numbers -/
structure Sml (pts : List (List Int)) (S : Nat) : Prop where
  ok : ∀ p ∈ pts, Pt3 (2 ^ 40) p
  s1 : S < 2 ^ 60
theorem fsc_small {pts : List (List Int)} {S : Nat} (h : Sml pts S) {p : List Int} (hp : p ∈ pts) : (fsc S p).1.natAbs ≤ 2 ^ 100 ∧ (fsc S p).2.natAbs ≤ 2 ^ 100 := by
  obtain ⟨x, y, w, A⟩ := h.ok p hp
  have e := A.eq
  subst e
  have h2 := h.s1
  have w0 := A.pos
  have d0 : 0 ≤ (S : Int) / w := Int.ediv_nonneg (by omega) (by omega)
  have d1 : (S : Int) / w ≤ S := Int.ediv_le_self _ (by omega)
  have hd : ((S : Int) / w).natAbs ≤ 2 ^ 60 := by omega
  have mul : ∀ {z : Int}, z.natAbs ≤ 2 ^ 40 → (z * ((S : Int) / w)).natAbs ≤ 2 ^ 100 := fun {z} hz => by
    rw [Int.natAbs_mul]
    exact Nat.le_trans (Nat.mul_le_mul hz hd) (by decide)
  exact ⟨mul A.bx, mul A.bby⟩
theorem sumTo_le {f : Nat → Int} {b : Nat} : ∀ (j : Nat), (∀ i, i < j → (f i).natAbs ≤ b) → (sumTo f j).natAbs ≤ j * b
  | 0, _ => by show (0 : Int).natAbs ≤ _; simp
  | j + 1, h => by
    have h1 := sumTo_le j fun i hi => h i (Nat.lt_succ_of_lt hi)
    have h2 := h j (Nat.lt_succ_self j)
    show (sumTo f j + f j).natAbs ≤ _
    rw [Nat.succ_mul]
    omega
theorem nthP_le {l : List P} {b : Nat} (h : ∀ q ∈ l, q.1.natAbs ≤ b ∧ q.2.natAbs ≤ b) (i : Nat) : (nthP l i).1.natAbs ≤ b ∧ (nthP l i).2.natAbs ≤ b := by
  show (l.getD i (0, 0)).1.natAbs ≤ b ∧ (l.getD i (0, 0)).2.natAbs ≤ b
  rw [List.getD_eq_getElem?_getD (l := l)]
  cases e : l[i]? with
  | none => exact ⟨Nat.zero_le _, Nat.zero_le _⟩
  | some q => exact h q (List.mem_of_getElem? e)
theorem mul_le2 {x y : Int} {a b : Nat} (h : x.natAbs ≤ 2 ^ a) (k : y.natAbs ≤ 2 ^ b) : (x * y).natAbs ≤ 2 ^ (a + b) := by
  rw [Int.natAbs_mul,
        Nat.pow_add]
  exact Nat.mul_le_mul h k
theorem tri_le {l : List P} (h : ∀ q ∈ l, q.1.natAbs ≤ 2 ^ 100 ∧ q.2.natAbs ≤ 2 ^ 100) (i : Nat) : (triA l i).natAbs ≤ 2 ^ 203 := by
  have a := nthP_le h (i + 1)
  have b := nthP_le h (i + 2)
  have c := nthP_le h 0
  have d : ∀ {x y : Int}, x.natAbs ≤ 2 ^ 100 → y.natAbs ≤ 2 ^ 100 → (x - y).natAbs ≤ 2 ^ 101 := fun hx hy => by omega
  have h1 := mul_le2 (d a.1 c.1) (d b.2 c.2)
  have h2 := mul_le2 (d a.2 c.2) (d b.1 c.1)
  unfold triA
  omega
theorem mom_le {l : List P} (h : ∀ q ∈ l, q.1.natAbs ≤ 2 ^ 100 ∧ q.2.natAbs ≤ 2 ^ 100) (i : Nat) : (momX l i).natAbs ≤ 2 ^ 305 ∧ (momY l i).natAbs ≤ 2 ^ 305 := by
  have a := nthP_le h (i + 1)
  have b := nthP_le h (i + 2)
  have c := nthP_le h 0
  have t := tri_le h i
  have d : ∀ {x y z : Int}, x.natAbs ≤ 2 ^ 100 → y.natAbs ≤ 2 ^ 100 → z.natAbs ≤ 2 ^ 100 → ((x - z) + (y - z)).natAbs ≤ 2 ^ 102 := fun hx hy hz => by omega
  exact ⟨mul_le2 (d a.1 b.1 c.1) t, mul_le2 (d a.2 b.2 c.2) t⟩
theorem Sml.all {pts : List (List Int)} {S : Nat} (h : Sml pts S) : ∀ q ∈ pts.map (fsc S), q.1.natAbs ≤ 2 ^ 100 ∧ q.2.natAbs ≤ 2 ^ 100 := fun q hq => by
  obtain ⟨p, hp, rfl⟩
        := List.mem_map.mp hq
  exact fsc_small h hp
theorem FanQ.bdA {S : Nat} {pts : List (List Int)} {j : Nat} {A B : List Int} (h : FanQ S (pts.map (fsc S)) j A B) (k : Sml pts S) (hj : j ≤ 8) : ∃ t e, FrL (2 ^ 207) A t e := by
  have h1 := sumTo_le (f := triA (pts.map (fsc S))) (b := 2 ^ 203) j fun i _ => tri_le k.all i
  have h2 : j * 2 ^ 203 ≤ 8 * 2 ^ 203 := Nat.mul_le_mul hj (Nat.le_refl _)
  have h3 : 8 * 2 ^ 203 ≤ 2 ^ 207 := by decide
  have s1 := k.s1
  have h4 : ((S : Int) * S).natAbs ≤ 2 ^ (60 + 60) := mul_le2 (by omega) (by omega)
  exact h.t.bd (by omega) (Nat.le_trans h4 (by decide))
theorem FanQ.bdB {S : Nat} {pts : List (List Int)} {j : Nat} {A B : List Int} (h : FanQ S (pts.map (fsc S)) j A B) (k : Sml pts S) (hj : j ≤ 8) : ∃ x y w, PtL (2 ^ 309) B x y w := by
  have hx := sumTo_le (f := momX (pts.map (fsc S))) (b := 2 ^ 305) j fun i _ => (mom_le k.all i).1
  have hy := sumTo_le (f := momY (pts.map (fsc S))) (b := 2 ^ 305) j fun i _ => (mom_le k.all i).2
  have h2 : j * 2 ^ 305 ≤ 8 * 2 ^ 305 := Nat.mul_le_mul hj (Nat.le_refl _)
  have h3 : 8 * 2 ^ 305 ≤ 2 ^ 309 := by rw [show (309 : Nat) = 305 + 4 from rfl, Nat.pow_add]; omega
  have s1 := k.s1
  have h4 : ((S : Int) * S).natAbs ≤ 2 ^ (60 + 60) := mul_le2 (by omega) (by omega)
  have h5 : ((S : Int) * S * S).natAbs ≤ 2 ^ (60 + 60 + 60) := mul_le2 h4 (by omega)
  exact h.m.bd (by omega) (by omega) (Nat.le_trans h5 (Nat.pow_le_pow_right (by decide) (by decide)))
theorem MidQ.bd {S : Nat} {pts : List (List Int)} {a : List Int} (h : MidQ S (pts.map (fsc S)) a) (k : Sml pts S) (h0 : 0 < S) (h8 : pts.length ≤ 8) : ∃ x y w, PtL (2 ^ 310) a x y w := by
  have hl : (pts.map (fsc S)).length - 2 ≤ 8 := by rw [List.length_map]; omega
  have hc := sumTo_le (f := triA (pts.map (fsc S))) (b := 2 ^ 203) ((pts.map (fsc S)).length - 2) fun i _ => tri_le k.all i
  have hx := sumTo_le (f := momX (pts.map (fsc S))) (b := 2 ^ 305) ((pts.map (fsc S)).length - 2) fun i _ => (mom_le k.all i).1
  have hy := sumTo_le (f := momY (pts.map (fsc S))) (b := 2 ^ 305) ((pts.map (fsc S)).length - 2) fun i _ => (mom_le k.all i).2
  have hc : (areaC (pts.map (fsc S))).natAbs ≤ 8 * 2 ^ 203 := Nat.le_trans hc (Nat.mul_le_mul hl (Nat.le_refl _))
  have hx : (areaX (pts.map (fsc S))).natAbs ≤ 8 * 2 ^ 305 := Nat.le_trans hx (Nat.mul_le_mul hl (Nat.le_refl _))
  have hy : (areaY (pts.map (fsc S))).natAbs ≤ 8 * 2 ^ 305 := Nat.le_trans hy (Nat.mul_le_mul hl (Nat.le_refl _))
  have n0 := nthP_le k.all 0
  have s1 := k.s1
  have h3c : (3 * areaC (pts.map (fsc S))).natAbs ≤ 2 ^ 208 := by
    have : (2 : Nat) ^ 208 = 32 * 2 ^ 203 := by decide
    omega
  have m1 := mul_le2 h3c n0.1
  have m2 := mul_le2 h3c n0.2
  have m3 := mul_le2 (y := ((S : Nat) : Int)) (b := 60) h3c (by omega)
  have e310 : (2 : Nat) ^ 310 = 32 * 2 ^ 305 := by rw [show (310 : Nat) = 305 + 5 from rfl, Nat.pow_add]; omega
  have e308 : (2 : Nat) ^ (208 + 100) = 8 * 2 ^ 305 := by rw [show (208 + 100 : Nat) = 305 + 3 from rfl, Nat.pow_add]; omega
  rw [e308] at m1 m2
  exact h.q.bd (by omega) (by omega) (Nat.le_trans m3 (Nat.pow_le_pow_right (by decide) (by decide)))
end K05
namespace K05
open PySem L2 Ur Hull
abbrev sLMiddle : Stmt := top 42
theorem scb_pk {pts : List (List Int)} {S : Nat} (h : Scb pts S) {p : List Int} (hp : p ∈ pts) : Pk (scl pts) p := ⟨h.ok p hp, scl_has hp⟩
theorem pol_self {pts : List (List Int)} {S : Nat} (h : Pol pts S) : hl (pts.map (fsc (scl pts))) = pts.map (fsc (scl pts)) := by
  have e := congrArg (List.map (fsc (scl pts))) h.self
  unfold hullOf at e
  rw [List.map_map] at e
  have h2 : List.map (fsc (scl pts) ∘ fun p => thin [p.1, p.2, ((scl pts : Nat) : Int)]) (hl (pts.map (fsc (scl pts)))) = hl (pts.map (fsc (scl pts))) := by
    conv => rhs; rw [← List.map_id (hl (pts.map (fsc (scl pts))))]
    refine List.map_congr_left fun q hq => ?_
    obtain ⟨p, hp, rfl⟩ := List.mem_map.mp (hl_sub hq)
    have := pk_back h.scb.scl_pos (scb_pk h.scb hp)
    show fsc (scl pts) (thin [(fsc (scl pts) p).1, (fsc (scl pts) p).2, (scl pts : Nat)]) = fsc (scl pts) p
    rw [this]
  exact h2.symm.trans e
/-- the corners go round counterclockwise -/
theorem fan_pos {pts : List (List Int)} {S : Nat} (h : Pol pts S) {k : Nat} {a b c : List Int} (h0 : pts[0]? = some a) (hb : pts[k + 1]? = some b) (hc : pts[k + 2]? = some c) : 0 < sidL a b c := by
  have hL := h.scb.scl_pos
  have e := pol_self h
  have ma := scb_pk h.scb (List.mem_of_getElem? h0)
  have mb := scb_pk h.scb (List.mem_of_getElem? hb)
  have mc := scb_pk h.scb (List.mem_of_getElem? hc)
  generalize scl pts = L at *
  cases pts with
  | nil => cases h0
  | cons x rest =>
    obtain rfl : x = a := Option.some.inj h0
    have hb' : rest[k]? = some b := hb
    have hc' : rest[k + 1]? = some c := hc
    have er : rest = rest.take k ++ b :: c :: rest.drop (k + 2) := by
      have h1 := (List.getElem?_eq_some_iff.mp hb')
      have h2 := (List.getElem?_eq_some_iff.mp hc')
      obtain ⟨l1, e1⟩ := h1
      obtain ⟨l2, e2⟩ := h2
      conv => lhs; rw [← List.take_append_drop k rest]
      rw [List.drop_eq_getElem_cons l1, e1, List.drop_eq_getElem_cons l2, e2]
    have em : rest.map (fsc L) = (rest.take k).map (fsc L) ++ fsc L b :: fsc L c :: (rest.drop (k + 2)).map (fsc L) := by
      conv => lhs; rw [er]
      simp
    have := hl_fan (l := (x :: rest).map (fsc L)) (x := fsc L x) (rest := rest.map (fsc L)) (by rw [e]; rfl) em
    have hg : ¬ gone (fsc L x) (fsc L b) (fsc L c) = true := fun z => by
      have := of_decide_eq_true z
      omega
    rw [← sid_gone hL ma mb mc] at hg
    have h9 : ¬ sidL x b c ≤ 0 := fun z => hg (decide_eq_true z)
    omega
def spMid (K : PySem.W.Frag) : Sp := fun vs H Q _ => ∃ (v : V) (xs : List V) (pts : List (List Int)) (S : Nat), vs = [v] ∧ SecV K H v xs pts S ∧ Sml pts S ∧ ∀ (p : V) (a : List Int) (x y w : Int) (H' : Hp), Same H H' → Tp K H' p a → PtL (2 ^ 310) a x y w → MidQ S (pts.map (fsc S)) a → Q p H'
section
variable {P' : Program} {w : World} {K :
      PySem.W.Frag} {mg : Str → Option Value} {base : Heap}
abbrev n_lmiddle : List Str := ["_law_spots", "_law_total", "_law_step", "_law_k", "_law_one", "_law_two", "_law_part"]
theorem sc_lmiddle : FnScope n_lmiddle p_lspots (defScope sLMiddle) := ⟨rfl, rfl, rfl, by decide +kernel, rfl, by decide +kernel, by decide +kernel⟩
theorem ok_lmiddle {f : Addr} {fd : FuncData} (F : Fun K "_law_middle" "_law_middle" sLMiddle f fd) (T : Bl mg) (H_law_way : Has P' w K mg base "_law_way" p_lway 4 (spP2 K wayL)) (H_law_cross : Has P' w K mg base "_law_cross" p_lsg 4 (spP2 K crsL)) (H_law_add : Has P' w K mg base "_law_add" p_l12 4 (spFF K))
    (H_law_on : Has P' w K mg base "_law_on" p_lon 4 (spP2 K sumL)) (H_law_by : Has P' w K mg base "_law_by" p_lby 4 (spPF K byL)) (H_law_frac : Has P' w K mg base "_law_frac" p_lfrac 3 (spN2 K)) : FnOk P' w K mg base CX0 5 f fd p_lspots (spMid K) := by
  refine F.ok sc_lmiddle (fun vs H Q E h => ?_) (fun cdv A outer s H vs Q E hr h => ?_)
  · obtain ⟨_, _, _, _, rfl, _⟩ := h
    rfl
  · obtain ⟨v, xs, pts, S, rfl, ⟨⟨t, rfl, hS⟩, hA, hP⟩, hM, q⟩ := h
    have hS0 := hP.pol.scb.s0
    have hK : ∀ p ∈ pts, Pk S p := fun p hp => ⟨hP.pol.scb.ok p hp, hP.pol.scb.dvd p hp⟩
    have h3 := hP.three
    have h8 := hP.eight
    have hl := hA.len
    refine ⟨_, (pss_cons (ps_asg (pe_tup (pa_cons (pe_tup (pa_cons pe_int (pa_cons pe_int pa_nil))) (pa_cons (pe_tup (pa_cons pe_int (pa_cons pe_int (pa_cons pe_int pa_nil)))) pa_nil))) (pg_tup rfl (pgs_cons (pg_name (i := 1) sc_lmiddle.nd rfl (Or.inl rfl)) (pgs_cons (pg_name (i := 2) sc_lmiddle.nd rfl (Or.inl rfl)) pgs_nil))))
      (pss_cons (ps_for PassesOwn.never rfl (pi_range2 (by rfl) T.range (pa_cons pe_int (pa_cons (pe_op op_sub (pe_callB (r := Ur.rLen K) Ur.len_seq (by rfl) T.len PySem.boot_len (pa_cons (pv 0) pa_nil)) pe_int) pa_nil))) (pg_name (i := 3) sc_lmiddle.nd rfl (Or.inl rfl)) (pss_cons (ps_par (i := 4) (j := 5) rfl sc_lmiddle.nd rfl rfl (by decide) rfl rfl (pa_cons (pe_has H_law_way (hr.mono (by decide)) (by rfl) (pa_cons (pe_ix (r := rIxT K) ix_tup (pv 0) pe_int (fun _ _ => rfl)) (pa_cons (pe_ix (r := rIxT K) ix_tup (pv 0) (pv 3) (fun _ _ => rfl)) pa_nil))) (pa_cons (pe_has H_law_way (hr.mono (by decide)) (by rfl) (pa_cons (pe_ix (r := rIxT K) ix_tup (pv 0) pe_int (fun _ _ => rfl)) (pa_cons (pe_ix (r := rIxT K) ix_tup (pv 0) (pe_op op_add (pv 3) pe_int) (fun _ _ => rfl)) pa_nil))) pa_nil)) (by rfl))
      (pss_cons (ps_set (i := 6) sc_lmiddle.nd rfl (Or.inl rfl) (pe_has H_law_cross (hr.mono (by decide)) (by rfl) (pa_cons (pv 4) (pa_cons (pv 5) pa_nil))))
      (pss_cons (ps_set (i := 1) sc_lmiddle.nd rfl (Or.inl rfl) (pe_has H_law_add (hr.mono (by decide)) (by rfl) (pa_cons (pv 1) (pa_cons (pv 6) pa_nil))))
      (pss_one (ps_set (i := 2) sc_lmiddle.nd rfl (Or.inl rfl) (pe_has H_law_on (hr.mono (by decide)) (by rfl) (pa_cons (pv 2) (pa_cons (pe_has H_law_by (hr.mono (by decide)) (by rfl) (pa_cons (pe_has H_law_on (hr.mono (by decide)) (by rfl) (pa_cons (pv 4) (pa_cons (pv 5) pa_nil))) (pa_cons (pv 6) pa_nil))) pa_nil)))))))))
      (pss_one (ps_ret (pe_has H_law_on (hr.mono (by decide)) (by rfl) (pa_cons (pe_ix (r := rIxT K) ix_tup (pv 0) pe_int (fun _ _ => rfl)) (pa_cons (pe_has H_law_by (hr.mono (by decide)) (by rfl) (pa_cons (pv 2) (pa_cons (pe_has H_law_frac (hr.mono (by decide)) (by rfl) (pa_cons (pe_ix (r := rIxT K) ix_tup (pv 1) pe_int (fun _ _ => rfl)) (pa_cons (pe_op op_mul pe_int (pe_ix (r := rIxT K) ix_tup (pv 1) pe_int (fun _ _ => rfl))) pa_nil))) pa_nil))) pa_nil))))))), ?_⟩
    refine ⟨by show 2 ≤ sizeLine; decide, fun p1 hp1 => ⟨by show 3 ≤ sizeLine; decide, fun p2 hp2 => ⟨by show 2 ≤ sizeLine; decide, fun p3 hp3 => ?_⟩⟩⟩
    refine ⟨p3, _, rfl, SqT.of upd_same, rfl, _, _, rfl, _, _, rfl, rfl, ?_⟩
    have s1 := ((same_new (p := p1) (o := HO.tup [V.int 0, .int 1]) hp1).trans (same_new (p := p2) (o := HO.tup [V.int 0, .int 0, .int 1]) hp2)).trans (same_new (p := p3) (o := HO.tup [V.ref p1, .ref p2]) hp3)
    have t1 : Tp K (upd (upd (upd H p1 (.tup [V.int 0, .int 1])) p2 (.tup [V.int 0, .int 0, .int 1])) p3 (.tup [V.ref p1, .ref p2])) (.ref p1) [0, 1] := ⟨p1, rfl, SqT.of (same_new hp3 _ _ (same_new hp2 _ _ upd_same))⟩
    have t2 : Tp K (upd (upd (upd H p1 (.tup [V.int 0, .int 1])) p2 (.tup [V.int 0, .int 0, .int 1])) p3 (.tup [V.ref p1, .ref p2])) (.ref p2) [0, 0, 1] := ⟨p2, rfl, SqT.of (same_new hp3 _ _ upd_same)⟩
    generalize upd (upd (upd H p1 (.tup [V.int 0, .int 1])) p2 (.tup [V.int 0, .int 0, .int 1])) p3 (.tup [V.ref p1, .ref p2]) = H1 at s1 t1 t2 ⊢
    obtain ⟨a0, ha0⟩ : ∃ a, pts[0]? = some a := ⟨pts[0], List.getElem?_eq_getElem (by omega)⟩
    obtain ⟨x0, hx0⟩ : ∃ x, xs[0]? = some x := ⟨xs[0], List.getElem?_eq_getElem (by omega)⟩
    obtain ⟨X0, Y0, W0, A0⟩ := hM.ok a0 (List.mem_of_getElem? ha0)
    have tx0 := (hA.at_ 0 x0 a0 hx0 ha0).same s1
    have hS1 := same_sqT s1 hS
    have w40 : 2 ^ 40 ≤ WB := pwb (by decide)
    have o309 : 1 ≤ 2 ^ 309 := Nat.le_trans (by decide : 1 ≤ 2 ^ 10) (pup (by decide))
    refine ⟨_, rfl, t, _, rfl, Or.inr hS1, _, _, rfl, rfl, 1, _, rfl, ⟨by decide, by decide, ?_, ?_⟩, ?_⟩
    · rw [hl]; omega
    · rw [hl]; omega
    · refine for_range (lo := 1) (n := ((xs.length : Int) - 1 - 1).toNat) (fun j σ H' => ∃ (vt vs : V) (o3 o4 o5 o6 : Option V) (A B : List Int) (x y w' tt' ee : Int), σ = [some (.ref t), some vt, some vs, o3, o4, o5, o6] ∧ Same H1 H' ∧ Tp K H' vt A ∧ Tp K H' vs B ∧ FrL (2 ^ 207) A tt' ee ∧ PtL (2 ^ 309) B x y w' ∧ 0 ≤ tt' ∧ (0 < j → 0 < tt') ∧ FanQ S (pts.map (fsc S)) j A B) ?_ ?_ ?_
      · exact ⟨.ref p1, .ref p2, none, none, none, none, [0, 1], [0, 0, 1], 0, 0, 1, 0, 1, rfl, Same.refl _, t1, t2, ⟨rfl, by decide, by decide, by decide, by decide⟩, ⟨rfl, by decide, by decide, Nat.zero_le _, Nat.zero_le _, o309⟩, by decide, fun h => absurd h (by decide), FanQ.start hS0 _⟩
      · rintro j σ H' hj ⟨vt, vs, o3, o4, o5, o6, A, B, x, y, w', tt', ee, rfl, sm, ht, hs, FA, PB, h0, hp, fan⟩
        have hj6 : j + 2 < pts.length := by
          rw [hl] at hj
          omega
        obtain ⟨ab, hab⟩ : ∃ a, pts[j + 1]? = some a := ⟨pts[j + 1], List.getElem?_eq_getElem (by omega)⟩
        obtain ⟨ac, hac⟩ : ∃ a, pts[j + 2]? = some a := ⟨pts[j + 2], List.getElem?_eq_getElem (by omega)⟩
        obtain ⟨xb, hxb⟩ : ∃ x, xs[j + 1]? = some x := ⟨xs[j + 1], List.getElem?_eq_getElem (by omega)⟩
        obtain ⟨xc, hxc⟩ : ∃ x, xs[j + 2]? = some x := ⟨xs[j + 2], List.getElem?_eq_getElem (by omega)⟩
        obtain ⟨XB, YB, WB', AB⟩ := hM.ok ab (List.mem_of_getElem? hab)
        obtain ⟨XC, YC, WC, AC⟩ := hM.ok ac (List.mem_of_getElem? hac)
        have txb := ((hA.at_ _ xb ab hxb hab).same s1).same sm
        have txc := ((hA.at_ _ xc ac hxc hac).same s1).same sm
        have tx0' := tx0.same sm
        have hS2 := same_sqT sm hS1
        have k1 : (1 : Int) + (j : Nat) = ((j + 1 : Nat) : Int) := by omega
        have k2 : (1 : Int) + (j : Nat) + 1 = ((j + 2 : Nat) : Int) := by omega
        obtain ⟨g1, d1, d2, d3, _, _, _, _, DW⟩ := pt_way A0 AB
        obtain ⟨g2, e1, e2, e3, _, _, _, _, EW⟩ := pt_way A0 AC
        obtain ⟨g3, f1, f3, _, _, _, GW⟩ := fr_crs DW EW
        obtain ⟨t9, e9, he9, hsg⟩ := side_is A0 AB AC
        have hpos := fan_pos hP.pol ha0 hab hac
        have hf1 : 0 < f1 := by
          have e := GW.eq.symm.trans he9
          have : f1 = t9 := (List.cons.inj e).1
          rw [← hsg] at hpos
          rw [this]
          unfold sgn at hpos
          split at hpos
          · assumption
          · split at hpos <;> omega
        have q15 : 2 ^ 40 * 2 ^ 40 + 2 ^ 40 * 2 ^ 40 ≤ 2 ^ 81 := by decide
        have DW := DW.up q15
        have EW := EW.up q15
        have GW : FrL (2 ^ 163) _ _ _ := GW.up (by decide : (2 ^ 40 * 2 ^ 40 + 2 ^ 40 * 2 ^ 40) * (2 ^ 40 * 2 ^ 40 + 2 ^ 40 * 2 ^ 40) + (2 ^ 40 * 2 ^ 40 + 2 ^ 40 * 2 ^ 40) * (2 ^ 40 * 2 ^ 40 + 2 ^ 40 * 2 ^ 40) ≤ 2 ^ 163)
        obtain ⟨g4, t', e', g40, r1, r2, TW⟩ := fr_add FA GW
        have fan2 := fan.next hS0 ha0 hab hac (hK _ (List.mem_of_getElem? ha0)) (hK _ (List.mem_of_getElem? hab)) (hK _ (List.mem_of_getElem? hac))
        obtain ⟨t2, e2', TW2⟩ := fan2.bdA hM (by omega)
        obtain ⟨x2', y2', z2', ZW2⟩ := fan2.bdB hM (by omega)
        obtain ⟨g5, o1, o2, o3', _, _, _, _, OW⟩ := pt_sum DW EW
        have OW : PtL (2 ^ 163) _ _ _ _ := OW.up (by decide : 2 ^ 81 * 2 ^ 81 + 2 ^ 81 * 2 ^ 81 ≤ 2 ^ 163)
        obtain ⟨g6, u1, u2, u3, _, _, _, _, UW⟩ := pt_by OW GW
        have UW : PtL (2 ^ 326) _ _ _ _ := UW.up (pw1 (Nat.le_refl _) (Nat.le_refl _))
        obtain ⟨g7, z1, z2, z3, _, _, _, _, ZW⟩ := pt_sum PB UW
        have ht' : 0 < t' := by
          have h2 : 0 ≤ tt' * f3 := Int.mul_nonneg h0 (Int.le_of_lt GW.pos)
          have h3 : 0 < f1 * ee := Int.mul_pos hf1 FA.pos
          exact pos_of g40 (by rw [← r1]; omega)
        have ett : t' = t2 := (List.cons.inj (TW.eq.symm.trans TW2.eq)).1
        rw [ett] at ht'
        refine ⟨_, rfl, t, _, 0, x0, rfl, rfl, hS2, atI_nat (j := 0) hx0, _, rfl, _, rfl, t, _, _, xb, rfl, rfl, hS2, by rw [k1]; exact atI_nat hxb, x0, xb, a0, ab, _, _, _, _, _, _, _, _, rfl, tx0', txb, A0, AB, w40, w40, fun v1 H3 s3 tv1 => ?_⟩
        refine ⟨_, rfl, t, _, 0, x0, rfl, rfl, same_sqT s3 hS2, atI_nat (j := 0) hx0, _, rfl, _, rfl, _, _, rfl, rfl, t, _, _, xc, rfl, rfl, same_sqT s3 hS2, by rw [k2]; exact atI_nat hxc, x0, xc, a0, ac, _, _, _, _, _, _, _, _, rfl, tx0'.same s3, txc.same s3, A0, AC, w40, w40, fun v2 H4 s4 tv2 => ⟨v1, v2, rfl, ?_⟩⟩
        have tv1' := tv1.same s4
        refine ⟨_, rfl, _, rfl, v1, v2, _, _, _, _, _, _, _, _, _, _, rfl, tv1', tv2, DW, EW, pwb (by decide), pwb (by decide), fun v3 H5 s5 tv3 => ?_⟩
        refine ⟨_, rfl, _, rfl, vt, v3, _, _, _, _, _, _, _, _, rfl, (ht.same ((s3.trans s4).trans s5)), tv3, FA, GW, pwb (by omega), pwb (by decide), fun v4 H6 s6 tv4 => ?_⟩
        refine ⟨_, rfl, _, rfl, _, rfl, v1, v2, _, _, _, _, _, _, _, _, _, _, rfl, (tv1'.same s5).same s6, (tv2.same s5).same s6, DW, EW, pwb (by decide), pwb (by decide), fun v5 H7 s7 tv5 => ?_⟩
        refine ⟨_, rfl, v5, v3, _, _, _, _, _, _, _, _, _, rfl, tv5, (tv3.same s6).same s7, OW, GW, pwb (by decide), pwb (by decide), fun v6 H8 s8 tv6 => ?_⟩
        have sall := ((((s3.trans s4).trans s5).trans s6).trans s7).trans s8
        refine ⟨vs, v6, _, _, _, _, _, _, _, _, _, _, rfl, hs.same sall, tv6, PB, UW, pwb (by omega), pwb (by decide), fun v7 H9 s9 tv7 => ?_⟩
        exact ⟨v4, v7, _, _, _, _, _, _, _, _, _, _, _, rfl, sm.trans (sall.trans s9), ((tv4.same s7).same s8).same s9, tv7, TW2, ZW2, Int.le_of_lt ht', fun _ => ht', fan2⟩
      · rintro σ H' ⟨vt, vs, o3, o4, o5, o6, A, B, x, y, w', tt', ee, rfl, sm, ht, hs, FA, PB, h0, hp, fan⟩
        have en : ((xs.length : Int) - 1 - 1).toNat = pts.length - 2 := by rw [hl]; omega
        rw [en] at hp fan
        have hp := hp (by omega)
        have mid := fan.end_ hS0 FA hp ha0 (hK _ (List.mem_of_getElem? ha0))
        have ef := FA.eq
        subst ef
        obtain ⟨ta, rfl, sa⟩ := ht
        have hS2 := same_sqT sm hS1
        have b194 : ee.natAbs ≤ 2 ^ 209 ∧ (3 * tt').natAbs ≤ 2 ^ 209 := by
          have h1 := FA.bt
          have h2 := FA.bb
          have h3 : (2 : Nat) ^ 209 = 4 * 2 ^ 207 := by decide
          omega
        obtain ⟨g1, i1, i2, _, _, _, IW⟩ := fr_thin (x := ee) (w := 3 * tt') (n := 2 ^ 209) (by omega) b194.1 b194.2
        obtain ⟨g2, j1, j2, j3, _, _, _, _, JW⟩ := pt_by PB IW
        have JW : PtL (2 ^ 518) _ _ _ _ := JW.up (pw1 (Nat.le_refl _) (Nat.le_refl _))
        obtain ⟨g3, l1, l2, l3, _, _, _, _, LW⟩ := pt_sum A0 JW
        obtain ⟨mx, my, mw', MW⟩ := mid.bd hM hS0 (by omega)
        have w194 : ∀ {z : Nat}, z ≤ 2 ^ 209 → z ≤ W2 := fun h => Nat.le_trans h (by unfold W2; exact pup (by decide))
        refine ⟨_, rfl, t, _, 0, x0, rfl, rfl, hS2, atI_nat (j := 0) hx0, _, rfl, _, rfl, ta, _, 1, _, rfl, rfl, sa, rfl, _, rfl, ta, _, 0, _, rfl, rfl, sa, rfl, _, _, rfl, rfl, Or.inl ⟨by decide, by decide⟩, _, _, rfl, by omega, w194 b194.1, w194 b194.2, fun v1 H3 s3 tv1 => ?_⟩
        refine ⟨vs, v1, _, _, _, _, _, _, _, _, _, rfl, hs.same s3, tv1, PB, IW, pwb (by decide), pwb (by decide), fun v2 H4 s4 tv2 => ?_⟩
        exact ⟨x0, v2, a0, _, _, _, _, _, _, _, _, _, rfl, ((tx0.same sm).same s3).same s4, tv2, A0, JW, w40, pwb (by decide), fun v3 H5 s5 tv3 => q v3 _ _ _ _ H5 ((s1.trans sm).trans ((s3.trans s4).trans s5)) tv3 MW mid⟩
end
end K05
namespace K05
open PySem L2 Ur Hull
theorem dr_thin {x y : Int} {n : Nat} (h0 : ¬ (x = 0 ∧ y = 0)) (hx : x.natAbs ≤ n) (hy : y.natAbs ≤ n) : ∃ c s, DrL n (thin [x, y]) c s := by
  have hg : 0 < gAll [x, y] := by
    rw [gAll_2]
    rcases Nat.eq_zero_or_pos (Nat.gcd x.natAbs y.natAbs) with h | h
    · rw [Nat.gcd_eq_zero_iff] at h
      exact absurd ⟨by omega, by omega⟩ h0
    · exact h
  have e := thin_eq hg
  obtain ⟨p, hp⟩ := ex_div (g := gAll [x, y]) (x := x) (by rw [gAll_2]; exact Nat.gcd_dvd_left _ _)
  obtain ⟨r, hr⟩ := ex_div (g := gAll [x, y]) (x := y) (by rw [gAll_2]; exact Nat.gcd_dvd_right _ _)
  have h3 := gAll_2 x y
  generalize gAll [x, y] = g at *
  have hg' : (g : Int) ≠ 0 := by omega
  refine ⟨p, r, ?_, ?_, abs_le (by omega) (hp ▸ hx), abs_le (by omega) (hr ▸ hy)⟩
  · rw [e]
    show [x / (g : Int), y / (g : Int)] = _
    rw [hp, hr, Int.mul_ediv_cancel_left _ hg', Int.mul_ediv_cancel_left _ hg']
  · rw [hp, hr, Int.natAbs_mul, Int.natAbs_mul, Int.natAbs_natCast, Nat.gcd_mul_left] at h3
    have : g * 1 = g * Nat.gcd p.natAbs r.natAbs := by rw [Nat.mul_one]; exact h3
    exact (Nat.eq_of_mul_eq_mul_left hg this).symm
def spMass (K : PySem.W.Frag) : Sp := fun vs H Q _ => ∃ (u : Addr) (v : V) (xs : List V) (pts : List (List Int)) (S : Nat), vs = [.ref u, v] ∧ H u = some (UrnO u) ∧ SecV K H v xs pts S ∧ Sml pts S ∧ ∀ (p : V) (a : List Int) (x y w : Int) (H' : Hp), Same H H' → Tp K H' p a → PtL (2 ^ 330) a x y w → Q p H'
def spAim (K : PySem.W.Frag) : Sp := fun vs H Q _ => ∃ (u : Addr), vs = [.ref u] ∧ H u = some (UrnO u) ∧ ∀ (p : V) (a : List Int) (c s : Int) (H' : Hp), Same H H' → Tp K H' p a → DrL 9 a c s → Q p H'
section
variable {P' : Program} {w : World} {K :
      PySem.W.Frag} {mg : Str → Option Value} {base : Heap}
abbrev n_lmass : List Str := ["_law_urn_here", "_law_plate_here", "_law_kind", "_law_step"]
abbrev p_lmass : List Str := ["_law_urn_here", "_law_plate_here"]
abbrev n_laim : List Str := ["_law_urn_here", "_law_high", "_law_pair"]
abbrev p_lurn : List Str := ["_law_urn_here"]
end
end K05
namespace K05
open PySem L2 Ur Hull
/-! ### hulls do not ask for the scale -/
def hullL (L : Nat) (pts : List (List Int)) : List (List Int) := (hl (pts.map (fsc L))).map fun p => thin [p.1, p.2, (L : Nat)]
theorem hullL_map {L : Nat} (h0 : 0 < L) {pts : List (List Int)} (h : ∀ p ∈ pts, Pk L p) : (hullL L pts).map (fsc L) = hl (pts.map (fsc L)) := by
  unfold hullL
  rw [List.map_map]
  conv => rhs; rw [← List.map_id (hl (pts.map (fsc L)))]
  refine List.map_congr_left fun q hq => ?_
  obtain ⟨p, hp, rfl⟩ := List.mem_map.mp (hl_sub hq)
  have := pk_back h0 (h p hp)
  show fsc L (thin [(fsc L p).1, (fsc L p).2, (L : Nat)]) = fsc L p
  rw [this]
theorem hullL_mem {L : Nat} (h0 : 0 < L) {pts : List (List Int)} (h : ∀ p ∈ pts, Pk L p) {p : List Int} (hp : p ∈ hullL L pts) : p ∈ pts := by
  unfold hullL at hp
  obtain ⟨q, hq, rfl⟩
        := List.mem_map.mp hp
  obtain ⟨p, hp2, rfl⟩ := List.mem_map.mp (hl_sub hq)
  rw [pk_back h0 (h p hp2)]
  exact hp2
theorem list_back {L : Nat} (h0 : 0 < L) : ∀ {A B : List (List Int)}, (∀ p ∈ A, Pk L p) → (∀ p ∈ B, Pk L p) → A.map (fsc L) = B.map (fsc L) → A = B
  | [], [], _, _, _ => rfl
  | [], _ :: _, _, _, e => nomatch e
  | _ :: _, [], _, _, e => nomatch e
  | a :: A, b :: B, ha, hb, e => by
    rw [List.map_cons,
          List.map_cons] at e
    have e1 := (List.cons.inj e).1
    have e2 := (List.cons.inj e).2
    rw [pk_inj h0 (ha a List.mem_cons_self) (hb b List.mem_cons_self) e1, list_back h0 (fun p hp => ha p (List.mem_cons_of_mem _ hp)) (fun p hp => hb p (List.mem_cons_of_mem _ hp)) e2]
theorem fsc_sc {L M : Nat} {k : Int} (hM : 0 < M) (hk : (L : Int) = M * k) {p : List Int} (h : Pk M p) : fsc L p = sc k (fsc M p) := by
  obtain ⟨x, y, w, j, A, j0, hMj, e⟩ := pk_form hM h
  have ep := A.eq
  subst ep
  rw [e]
  show (x * ((L : Int) / w), y * ((L : Int) / w)) = (k * (x * j), k * (y * j))
  have : (L : Int) / w = j * k := by
    rw [hk, hMj, Int.mul_assoc, Int.mul_ediv_cancel_left _ (by have := A.pos; omega)]
  rw [this]
  have h1 : x * (j * k) = k * (x * j) := by grind
  have h2 : y * (j * k) = k * (y * j) := by grind
  rw [h1, h2]
theorem hullL_indep {L : Nat} (h0 : 0 < L) {pts : List (List Int)} (h : ∀ p ∈ pts, Pk L p) : hullL L pts = hullOf pts := by
  have hd : scl pts ∣ L := scl_dvd fun p hp => (h p hp).dv
  obtain ⟨k, hk⟩ := hd
  have hM : 0 < scl pts := Nat.pos_of_dvd_of_pos ⟨k, hk⟩ h0
  have k0 : 0 < (k : Int) := by
    rcases Nat.eq_zero_or_pos k with z | z
    · rw [z, Nat.mul_zero] at hk; omega
    · omega
  have hkI : (L : Int) = (scl pts : Nat) * (k : Int) := by rw [← Int.natCast_mul, ← hk]
  have hM' : ∀ p ∈ pts, Pk (scl pts) p := fun p hp => ⟨(h p hp).pt, scl_has hp⟩
  have e1 : hullOf pts = hullL (scl pts) pts := rfl
  rw [e1]
  have m1 : ∀ p ∈ hullL L pts, Pk L p := fun p hp => h p (hullL_mem h0 h hp)
  have m2 : ∀ p ∈ hullL (scl pts) pts, p ∈ pts := fun p hp => hullL_mem hM hM' hp
  refine list_back h0 m1 (fun p hp => h p (m2 p hp)) ?_
  rw [hullL_map h0 h]
  have e2 : pts.map (fsc L) = (pts.map (fsc (scl pts))).map (sc k) := by
    rw [List.map_map]
    exact List.map_congr_left fun p hp => fsc_sc hM hkI (hM' p hp)
  rw [e2]
  show hull gone (ascOf _) = _
  rw [Hull.sc_hull k0]
  have e3 : (hullL (scl pts) pts).map (fsc L) = ((hullL (scl pts) pts).map (fsc (scl pts))).map (sc k) := by
    rw [List.map_map]
    exact List.map_congr_left fun p hp => fsc_sc hM hkI (hM' p (m2 p hp))
  rw [e3, hullL_map hM hM']
  rfl
theorem hull_pol {L : Nat} (h0 : 0 < L) (h1 : L < SB) {pts : List (List Int)} (hf : pts.length ≤ 1000) (h : ∀ p ∈ pts, Pk L p) : Pol (hullL L pts) L := by
  have hm : ∀ p ∈ hullL L pts, Pk L p := fun p hp => h p (hullL_mem h0 h hp)
  refine ⟨⟨?_, fun p hp => (hm p hp).pt, fun p hp => (hm p hp).dv, h0, h1⟩, ?_⟩
  · unfold hullL
    rw [List.length_map]
    have := hl_len (pts.map (fsc L))
    rw [List.length_map] at this
    omega
  · rw [← hullL_indep h0 hm]
    refine list_back h0 (fun p hp => hm p (hullL_mem h0 hm hp)) hm ?_
    rw [hullL_map h0 hm, hullL_map h0 h, hl_hl]
theorem hullL_len {L : Nat} (pts : List (List Int)) : (hullL L pts).length ≤ pts.length := by
  unfold hullL
  rw [List.length_map]
  have := hl_len (pts.map (fsc L))
  rwa [List.length_map] at this
theorem hullI_L {L : Nat} (h0 : 0 < L) {its : List Im} (h : ∀ m ∈ its, Pk L m.2) : (hullI L its).map Prod.snd = hullL L (its.map Prod.snd) := by
  have e1 : (hullI L its).map (keyI L) = hl ((its.map Prod.snd).map (fsc L)) := by
    unfold hullI
    rw [← hull_map (t := tI L) (u := gone) (g := keyI L) (fun _ _ _ => rfl), sortI_key h0 h]
    have : its.map (keyI L) = (its.map Prod.snd).map (fsc L) := by rw [List.map_map]; rfl
    rw [this]
    rfl
  unfold hullL
  rw [← e1, List.map_map]
  refine List.map_congr_left fun m hm => ?_
  exact (pk_back h0 (h m (sortI_mem (hull_mem' hm)))).symm
/-- what a law's hull hands back is a section, if it has three corners -/
theorem hullI_sec {K : PySem.W.Frag} {H : Hp} {L : Nat} (h0 : 0 < L) (h1 : L < SB) {its : List Im} (h : ∀ m ∈ its, Tp K H m.1 m.2 ∧ Pk L m.2) (h8 : its.length ≤ 8) (h3 : 3 ≤ (hullI L its).length) {r : Addr} (hr : SqT K H r ((hullI L its).map Prod.fst)) :
    SecV K H (.ref r) ((hullI L its).map Prod.fst) (hullL L (its.map Prod.snd)) L := by
  have e := hullI_L h0 (its := its) fun m hm => (h m hm).2
  have hp : ∀ p ∈ its.map Prod.snd, Pk L p := fun p hp => by
    obtain ⟨m, hm, rfl⟩ := List.mem_map.mp hp
    exact (h m hm).2
  have hl' := hullL_len (L := L) (its.map Prod.snd)
  rw [List.length_map] at hl'
  refine ⟨⟨r, rfl, hr⟩, ⟨by rw [← e, List.length_map, List.length_map], fun i y p hy hp => ?_⟩, hull_pol h0 h1 (by rw [List.length_map]; omega) hp, ?_, by omega⟩
  · rw [← e, List.getElem?_map] at hp
    rw [List.getElem?_map] at hy
    cases hm : (hullI L its)[i]? with
    | none => rw [hm] at hp; cases hp
    | some m =>
      rw [hm] at hp hy
      have e1 := Option.some.inj hp
      have e2 := Option.some.inj hy
      rw [← e1, ← e2]
      exact (h m (sortI_mem (hull_mem' (List.mem_of_getElem? hm)))).1
  · rw [← e, List.length_map]
    exact h3
/-! ### a quarter turn leaves three corners -/
theorem flat_of {l : List P} (hne : l ≠ []) (h : (hl l).length < 3) : ∃ c s : Int, ¬ (c = 0 ∧ s = 0) ∧ ∀ q ∈ l, ∀ q' ∈ l, ht c s q = ht c s q' := by
  have key : ∀ {c s v : Int}, (∀ d ∈ hl l, ht c s d = v) → ∀ q ∈ l, ht c s q = v := by
    intro c s v hv q hq
    obtain ⟨d, hd, k1⟩ := hl_min c s hq
    obtain ⟨d', hd', k2⟩ := hl_min (-c) (-s) hq
    have e1 := hv d hd
    have e2 := hv d' hd'
    have n1 : ht (-c) (-s) d' = - ht c s d' := by unfold ht; grind
    have n2 : ht (-c) (-s) q = - ht c s q := by unfold ht; grind
    omega
  have fin : ∀ {c s v : Int}, ¬ (c = 0 ∧ s = 0) → (∀ d ∈ hl l, ht c s d = v) → ∃ c s : Int, ¬ (c = 0 ∧ s = 0) ∧ ∀ q ∈ l, ∀ q' ∈ l, ht c s q = ht c s q' := fun hn hv => ⟨_, _, hn, fun q hq q' hq' => (key hv q hq).trans (key hv q' hq').symm⟩
  have nd : (hl l).Nodup := hull_nodup (ascOf_asc l)
  match e : hl l, h, nd with
  | [], _, _ =>
    obtain ⟨q, hq⟩ := List.exists_mem_of_ne_nil l hne
    obtain ⟨d, hd, _⟩ := hl_min 0 0 hq
    rw [e] at hd
    cases hd
  | [d], _, _ => exact fin (c := 1) (s := 0) (v := ht 1 0 d) (by decide) fun x hx => by rw [e] at hx; rw [List.mem_singleton.mp hx]
  | [d, d'], _, nd =>
    have hne : d ≠ d' := fun z => by
      have := (List.nodup_cons.mp nd).1
      exact this (by rw [z]; exact List.mem_cons_self)
    refine fin (c := -(d'.2 - d.2)) (s := d'.1 - d.1) (v := ht (-(d'.2 - d.2)) (d'.1 - d.1) d) (fun ⟨h1, h2⟩ => hne (Prod.ext (by omega) (by omega))) fun x hx => ?_
    rw [e] at hx
    rcases List.mem_cons.mp
          hx with rfl | hx
    · rfl
    · rw [List.mem_singleton.mp hx]
      unfold ht
      grind
theorem flat_tt {c s : Int} (hn : ¬ (c = 0 ∧ s = 0)) {x a b : P} (h1 : ht c s x = ht c s a) (h2 : ht c s x = ht c s b) : tt x a b = 0 := by
  unfold ht at h1 h2
  unfold tt
  have e1 : c * (a.1 - x.1) + s * (a.2 - x.2) = 0 := by grind
  have e2 : c * (b.1 - x.1) + s * (b.2 - x.2) = 0 := by grind
  generalize a.1 - x.1 = u1 at *
  generalize a.2 - x.2 = u2 at *
  generalize b.1 - x.1 = v1 at *
  generalize b.2 - x.2 = v2 at *
  by_cases hc : c = 0
  · have hs : s ≠ 0 := fun z => hn ⟨hc, z⟩
    rw [hc] at e1 e2
    have f1 : s * u2 = 0 := by omega
    have f2 : s * v2 = 0 := by omega
    have g1 : u2 = 0 := by rcases Int.mul_eq_zero.mp f1 with h | h; exact absurd h hs; exact h
    have g2 : v2 = 0 := by rcases Int.mul_eq_zero.mp f2 with h | h; exact absurd h hs; exact h
    rw [g1, g2]
    simp
  · have : c * (u1 * v2 - u2 * v1) = 0 := by
      have : c * (u1 * v2 - u2 * v1) = (c * u1 + s * u2) * v2 - (c * v1 + s * v2) * u2 := by grind
      rw [this, e1, e2]
      simp
    rcases Int.mul_eq_zero.mp this with h | h
    · exact absurd h hc
    · exact h
def rot (p : P) : P := (-p.2, p.1)
theorem tt_rot (x a b : P) : tt (rot x) (rot a) (rot b) = tt x a b := by unfold tt rot; grind
theorem rot_three {l : List P} (h : hl l = l) (h3 : 3 ≤ l.length) : 3 ≤ (hl (l.map rot)).length := by
  refine Classical.byContradiction
        fun hn => ?_
  have h3' : 3 ≤ (hl l).length := by rw [h]; exact h3
  obtain ⟨x, a, b, B, e, hp⟩ := hl_three h3'
  rw [h] at e
  have hne : l.map rot ≠ [] := by rw [e]; simp
  obtain ⟨c, s, hcs, hall⟩ := flat_of hne (by omega)
  have mx : rot x ∈ l.map rot := List.mem_map.mpr ⟨x, by rw [e]; simp, rfl⟩
  have ma : rot a ∈ l.map rot := List.mem_map.mpr ⟨a, by rw [e]; simp, rfl⟩
  have mb : rot b ∈ l.map rot := List.mem_map.mpr ⟨b, by rw [e]; simp, rfl⟩
  have := flat_tt hcs (hall _ mx _ ma) (hall _ mx _ mb)
  rw [tt_rot] at this
  omega
end K05
namespace Ur
open PySem L2 PyProof.Rows
/-! ### comprehensions of which only is known what each item is -/
abbrev MonoA (H : Hp) (Pe : Hp → V → Prop) : Prop := ∀ (D : Addr) (H1 H2 : Hp) y, H D = none → (∃ ys, H1 D = some (.lst ys)) → Same H H1 → (∀ a u, a ≠ D → H1 a = some u → H2 a = some u) → Pe H1 y → Pe H2 y
structure SomeH (H : Hp) (Pe : Hp → V → Prop) (D : Addr) (i : Nat) (H' : Hp) : Prop where
  new : H D = none
  same : Same H H'
  held : ∃ ys, H' D = some (.lst ys) ∧ ys.length ≤ i ∧ ∀ y ∈ ys, Pe H' y
theorem SomeH.turn {H H3 : Hp} {Pe : Hp → V → Prop} (hm : MonoA H Pe) {D : Addr} {i : Nat} {te : TE} {σ2 : L2.St} (m : SomeH H Pe D i H3) (hi : i < 100000)
    (he : ∀ Q' : VK, (∀ y H4, Pe H4 y → Same H3 H4 → Q' y H4) → te σ2 H3 Q') :
    te σ2 H3 fun y H4 => ∃ acc, H4 D = some (.lst acc) ∧ acc.length < sizeLine ∧ SomeH H Pe D (i + 1) (upd H4 D (.lst (acc ++ [y]))) := by
  obtain ⟨hn, sm, ys, h1, h2, h3⟩ := m
  refine he _ fun y H4 py s4 => ⟨ys, s4 _ _ h1, Nat.lt_of_lt_of_le (by omega : ys.length < 100000) (by decide), hn, same_own (sm.trans s4) hn, ys ++ [y], upd_same, by simp; omega, fun z hz => ?_⟩
  have keep : ∀ a u, a ≠ D → H4 a = some u → upd H4 D (.lst (ys ++ [y])) a = some u := fun a u ne q => by rw [upd_ne ne]; exact q
  rcases List.mem_append.mp hz with k | k
  · exact hm D _ _ z hn ⟨_, h1⟩ sm (fun a u ne q => keep a u ne (s4 a u q)) (h3 z k)
  · rw [List.mem_singleton.mp k]
    exact hm D _ _ y hn ⟨_, s4 _ _ h1⟩ (sm.trans s4) keep py
theorem SomeH.skip {H H3 H4 : Hp} {Pe : Hp → V → Prop} (hm : MonoA H Pe) {D : Addr} {i : Nat} (m : SomeH H Pe D i H3) (s : Same H3 H4) : SomeH H Pe D (i + 1) H4 := by
  obtain ⟨hn, sm, ys, h1, h2, h3⟩ := m
  exact ⟨hn, sm.trans s, ys, s _ _ h1, by omega, fun y hy => hm D _ _ y hn ⟨_, h1⟩ sm (fun a u _ q => s a u q) (h3 y hy)⟩
section
variable {te : TE} {tt : TT} {vs : List Nat} {j : Nat} {σ : L2.St} {Q : VK}
/-- [e for x in range(n) if test], n written -/
theorem lcRp {ta : TA} {H0 : Hp} {n : Nat} (Pe : Hp → V → Prop) (hm : MonoA H0 Pe) (hx : ∀ R : List V → Hp → Prop, R [.int (n : Nat)] H0 → ta σ H0 R) (hb : n ≤ 100000)
    (hw : ∀ x, wipe ((wipe σ vs).set j (some x)) vs = wipe σ vs)
    (ht : ∀ (i : Nat) (H3 : Hp), i < n → Same H0 H3 → ∀ Q' : Bool → Hp → Prop, (∀ b H4, Same H3 H4 → Q' b H4) → tt ((wipe σ vs).set j (some (.int (0 + (i : Int))))) H3 Q')
    (he : ∀ (i : Nat) (H3 : Hp), i < n → Same H0 H3 → ∀ Q' : VK, (∀ y H4, Pe H4 y → Same H3 H4 → Q' y H4) → te ((wipe σ vs).set j (some (.int (0 + (i : Int))))) H3 Q')
    (hq : ∀ D ys H', H0 D = none → Same H0 H' → H' D = some (.lst ys) → ys.length ≤ n → (∀ y ∈ ys, Pe H' y) → Q (.ref D) H') : tLc (iRng1 ta) (gName j) tt te vs σ H0 Q := by
  refine hx _ ⟨(n : Nat), rfl, by omega, by omega, fun D hD => ?_⟩
  refine lc_range (lo := 0) (n := (n : Int).toNat) (SomeH H0 Pe D) ⟨hD, same_new hD, [], upd_same, Nat.le_refl _, by simp⟩ (fun i H' hi m => ⟨hw _, ?_⟩) (fun H' ⟨hn, sm, ys, h1, h2, h3⟩ => hq D ys H' hn sm h1 (by simpa using h2) h3)
  have hi' : i < n := by simpa using hi
  refine ht i H' hi' m.same _ fun b H4 s4 => ?_
  cases b with
  | true =>
    rw [if_pos rfl]
    have m4 : SomeH H0 Pe D i H4 := ⟨m.new, m.same.trans s4, let ⟨ys, h1, h2, h3⟩ := m.held; ⟨ys, s4 _ _ h1, h2, fun y hy => hm D _ _ y m.new ⟨_, h1⟩ m.same (fun a u _ q => s4 a u q) (h3 y hy)⟩⟩
    exact m4.turn hm (by omega) (he i H4 hi' (m.same.trans s4))
  | false =>
    rw [if_neg
          Bool.false_ne_true]
    exact m.skip hm s4
end
end Ur
namespace K05
open PySem L2 Ur Hull
theorem gname_in {i : Nat} {x : V} {σ : L2.St} {H : Hp} {Q : L2.St → Hp → Prop} (h : Q (σ.set i (some x)) H) : gName i x σ H Q := h
abbrev sLPlate : Stmt := top 43
/-- a pair of small numbers -/
def Sm (H : Hp) (y : V) : Prop := ∃ p : P, Sp2 H y p ∧ p.1.natAbs ≤ 50 ∧ p.2.natAbs ≤ 50
theorem Sm.same {H H' : Hp} (s : Same H H') {y : V} (h : Sm H y) : Sm H' y := by
  obtain ⟨p, h, b⟩ := h
  exact ⟨p, h.same s, b⟩
theorem mono_sm {H : Hp} : MonoA H Sm := by
  rintro D H1 H2 y hD ⟨ys, hl⟩ s1 keep ⟨p, ⟨t, e, h⟩, b⟩
  exact ⟨p, ⟨t, e, keep t _ (fun z => by rw [z, hl] at h; cases h) h⟩, b⟩
theorem mono_sm2 {H : Hp} : Mono H fun H' _ y => Sm H' y := fun D H1 H2 j y hD hl s1 keep h => mono_sm D H1 H2 y hD hl s1 keep h
theorem Sm.of {H : Hp} {t : Addr} {x y : Int} (h : H t = some (.tup [.int x, .int y])) (hx : x.natAbs ≤ 50) (hy : y.natAbs ≤ 50) : Sm H (.ref t) := ⟨(x, y), ⟨t, rfl, h⟩, hx, hy⟩
/-- drawn points -/
structure Drw (H : Hp) (D : Addr) (n : Nat) : Prop where
  ex : ∃ zs, H D = some (.lst zs) ∧ zs.length ≤ n ∧ ∀ z ∈ zs, Sm H z
theorem Drw.same {H H' : Hp} (s : Same H H') {D : Addr} {n : Nat} (h : Drw H D n) : Drw H' D n := by
  obtain ⟨zs, h1, h2, h3⟩ := h
  exact ⟨zs, s _ _ h1, h2, fun z hz => (h3 z hz).same s⟩
theorem cut_8 (xs : List V) : cutV xs none (some 8) = xs.take 8 := by
  unfold cutV
  have e1 : HT.sIx xs.length 0 none = 0 := rfl
  have e2 : HT.sIx xs.length xs.length (some 8) = min 8 xs.length := HT.sIx_nat xs.length xs.length 8
  rw [e1, e2, List.drop_zero, Nat.sub_zero]
  rcases Nat.le_total 8 xs.length with h | h
  · rw [Nat.min_eq_left h]
  · rw [Nat.min_eq_right h, List.take_of_length_le h, List.take_of_length_le (Nat.le_refl _)]
/-- a plate's own small numbers -/
structure Tny (pts : List (List Int)) (S : Nat) : Prop where
  ok : ∀ p ∈ pts, Pt3 100 p
  s1 : S ≤ 5
def spPlate (K : PySem.W.Frag) : Sp := fun vs H Q _ => ∃ (u : Addr), vs = [.ref u] ∧ H u = some (UrnO u) ∧ ∀ (v : V) (xs : List V) (pts : List (List Int)) (S : Nat) (H' : Hp), Same H H' → SecV K H' v xs pts S → Sml pts S → Tny pts S → Q v H'
theorem Pt3.up {n m : Nat} {p : List Int} (h : Pt3 n p) (k : n ≤ m) : Pt3 m p := by
  obtain ⟨x, y, w, A⟩ := h
  exact ⟨x, y, w, A.up k⟩
theorem cb_40 : 2 ^ 40 ≤ CB := le_cb (Nat.le_refl _) (by decide)
theorem tri_sml : Sml [[0, 0, 1], [2, 0, 1], [1, 1, 1]] 1 := by
  refine ⟨fun p hp => ?_, by decide⟩
  simp only [List.mem_cons, List.not_mem_nil, or_false] at hp
  rcases hp with rfl | rfl | rfl
  · exact ⟨0, 0, 1, rfl, by decide, by decide, by decide, by decide, by decide⟩
  · exact ⟨2, 0, 1, rfl, by decide, by decide, by decide, by decide, by decide⟩
  · exact ⟨1, 1, 1, rfl, by decide, by decide, by decide, by decide, by decide⟩
theorem tri_tny : Tny [[0, 0, 1], [2, 0, 1], [1, 1, 1]] 1 := by
  refine ⟨fun p hp => ?_, by decide⟩
  simp only [List.mem_cons, List.not_mem_nil, or_false] at hp
  rcases hp with rfl | rfl | rfl
  · exact ⟨0, 0, 1, rfl, by decide, by decide, by decide, by decide, by decide⟩
  · exact ⟨2, 0, 1, rfl, by decide, by decide, by decide, by decide, by decide⟩
  · exact ⟨1, 1, 1, rfl, by decide, by decide, by decide, by decide, by decide⟩
theorem tri_sec : Sec [[0, 0, 1], [2, 0, 1], [1, 1, 1]] 1 := by
  refine ⟨⟨⟨by decide, fun p hp => (tri_sml.ok p hp).up cb_40, fun p hp => ?_, by decide, Nat.lt_of_lt_of_le (by decide : 1 < 2 ^ 1) (sb_ge (by decide))⟩, by decide +kernel⟩, by decide, by decide⟩
  simp only [List.mem_cons, List.not_mem_nil, or_false] at hp
  rcases hp with rfl | rfl | rfl <;> exact Nat.dvd_refl _
section
variable {P' : Program} {w : World} {K :
      PySem.W.Frag} {mg : Str → Option Value} {base : Heap}
abbrev n_lplate : List Str := ["_law_urn_here", "_law_kind", "_law_over", "_law_spots", "_law_lean", "_law_tall", "_law_bits", "_law_high", "_law_found", "_law_x", "_law_y", "_law_step", "_law_k"]
theorem sc_lplate : FnScope n_lplate p_lurn (defScope sLPlate) := ⟨rfl, rfl, rfl, by decide +kernel, rfl, by decide +kernel, by decide +kernel⟩
set_option
      maxHeartbeats 2000000 in
theorem ok_lplate {f : Addr} {fd : FuncData} (F : Fun K "_law_plate" "_law_plate" sLPlate f fd) (T : Bl mg) (H_law_pull : Has P' w K mg base "_law_pull" ["_law_urn_here", "_law_many"] 1 spPull) (H_law_any : Has P' w K mg base "_law_any" p_law_any 2 spAny) (H_law_num : Has P' w K mg base "_law_num" p_law_num 2 spNum)
    (H_law_spot : Has P' w K mg base "_law_spot" p_lspot 3 (spN3 K)) (H_law_hull : Has P' w K mg base "_law_hull" p_lspots 7 (spLHull K)) : FnOk P' w K mg base CX0 8 f fd p_lurn (spPlate K) := by
  refine F.ok sc_lplate (fun vs H Q E h => ?_) (fun cdv A outer s H vs Q E hr h => ?_)
  · obtain ⟨_, rfl, _⟩ := h
    rfl
  · obtain ⟨u, rfl, hu, q⟩ := h
    refine ⟨_, (pss_cons (ps_asg (pe_tup (pa_cons (pe_has H_law_pull (hr.mono (by decide)) (by rfl) (pa_cons (pv 0) (pa_cons pe_int pa_nil))) (pa_cons (pe_has H_law_any (hr.mono (by decide)) (by rfl) (pa_cons (pv 0) (pa_cons (pe_lst (pa_cons pe_int (pa_cons pe_int (pa_cons pe_int (pa_cons pe_int (pa_cons pe_int (pa_cons pe_int pa_nil))))))) pa_nil))) pa_nil))) (pg_tup rfl (pgs_cons (pg_name (i := 1) sc_lplate.nd rfl (Or.inl rfl)) (pgs_cons (pg_name (i := 2) sc_lplate.nd rfl (Or.inr rfl)) pgs_nil))))
      (pss_mid (ps_if (pt_cmpR op_eq (pv 1) pe_int (nomark _)) (pss_cons (ps_set (i := 3) sc_lplate.nd rfl (Or.inl rfl) (pe_lst (pa_cons (pe_tup (pa_cons pe_int (pa_cons pe_int pa_nil))) (pa_cons (pe_tup (pa_cons (pe_op op_add pe_int (pe_has H_law_pull (hr.mono (by decide)) (by rfl) (pa_cons (pv 0) (pa_cons pe_int pa_nil)))) (pa_cons pe_int pa_nil))) (pa_cons (pe_tup (pa_cons pe_int (pa_cons (pe_op op_add pe_int (pe_has H_law_pull (hr.mono (by decide)) (by rfl) (pa_cons (pv 0) (pa_cons pe_int pa_nil)))) pa_nil))) pa_nil)))))
      (pss_one (ps_set (i := 3) sc_lplate.nd rfl (Or.inl rfl) (pe_ifExp (pt_cmpR op_gt (pe_has H_law_pull (hr.mono (by decide)) (by rfl) (pa_cons (pv 0) (pa_cons pe_int pa_nil))) pe_int (nomark _)) (pe_op op_cat (pv 3) (pe_lst (pa_cons (pe_tup (pa_cons (pe_ix (r := rIxT K) ix_tup (pe_ix (r := rIxL K) ix_list (pv 3) pe_int (fun _ _ => rfl)) pe_int (fun _ _ => rfl)) (pa_cons (pe_ix (r := rIxT K) ix_tup (pe_ix (r := rIxL K) ix_list (pv 3) pe_int (fun _ _ => rfl)) pe_int (fun _ _ => rfl)) pa_nil))) pa_nil))) (pv 3))))) (pss_one (ps_if (pt_cmpR op_eq (pv 1) pe_int (nomark _)) (pss_cons (ps_asg (pe_tup (pa_cons (pe_has H_law_num (hr.mono (by decide)) (by rfl) (pa_cons (pv 0) (pa_cons pe_int pa_nil))) (pa_cons (pe_has H_law_any (hr.mono (by decide)) (by rfl) (pa_cons (pv 0) (pa_cons (pe_lst (pa_cons pe_int (pa_cons pe_int (pa_cons pe_int pa_nil)))) pa_nil))) pa_nil))) (pg_tup rfl (pgs_cons (pg_name (i := 4) sc_lplate.nd rfl (Or.inr rfl)) (pgs_cons (pg_name (i := 5) sc_lplate.nd rfl (Or.inr rfl)) pgs_nil))))
      (pss_cons (ps_set (i := 6) sc_lplate.nd rfl (Or.inr rfl) (pe_lc (own := [("_law_step", 11)]) (g := gName 11) (tt := tYes) rfl sc_lplate.nd (pi_range1 (by rfl) T.range (pa_cons pe_int pa_nil)) (blkOk_by (N := n_lplate) (sc := defScope sLPlate) (by decide +kernel)) (fun _ _ _ _ _ => pg_name (i := 11) sc_lplate.nd rfl (Or.inl rfl)) (fun _ _ _ _ _ => pts_nil) (fun _ _ _ _ _ => (pe_has H_law_pull (hr.mono (by decide)) (by rfl) (pa_cons (pv 0) (pa_cons pe_int pa_nil))))))
      (pss_one (ps_set (i := 3) sc_lplate.nd rfl (Or.inl rfl) (pe_slice sl_list (pe_lc (own := [("_law_k", 12)]) (g := gName 12) rfl sc_lplate.nd (pi_range1 (by rfl) T.range (pa_cons pe_int pa_nil)) (blkOk_by (N := n_lplate) (sc := defScope sLPlate) (by decide +kernel)) (fun _ _ _ _ _ => pg_name (i := 12) sc_lplate.nd rfl (Or.inl rfl)) (fun _ _ _ _ _ => pts_one (pt_cmpR op_gt (pe_ix (r := rIxL K) ix_list (pv 6) (pv 12) (fun _ _ => rfl)) pe_int (nomark _))) (fun _ _ _ _ _ => (pe_tup (pa_cons (pe_op op_sub (pv 12) pe_int) (pa_cons (pe_op op_add (pe_op op_mulW (pe_op op_mulW (pv 5) (pe_op op_sub (pv 12) pe_int)) (pe_op op_sub (pv 12) pe_int)) (pe_op op_mulW (pv 4) (pe_op op_sub (pv 12) pe_int))) pa_nil))))) po_none (po_some pe_int)))))) (pss_cons (ps_set (i := 7) sc_lplate.nd rfl (Or.inr rfl) (pe_has H_law_any (hr.mono (by decide)) (by rfl) (pa_cons (pv 0) (pa_cons (pe_lst (pa_cons pe_int (pa_cons pe_int (pa_cons pe_int (pa_cons pe_int (pa_cons pe_int pa_nil)))))) pa_nil))))
      (pss_one (ps_setLc (i := 3) (own := [("_law_step", 11)]) (g := gName 11) (tt := tYes) rfl sc_lplate.nd rfl rfl (sw_true rfl rfl rfl (by decide +kernel)) (pi_range1 (by rfl) T.range (pa_cons (pe_op op_add pe_int (pe_has H_law_pull (hr.mono (by decide)) (by rfl) (pa_cons (pv 0) (pa_cons pe_int pa_nil)))) pa_nil)) (blkOk_by (N := n_lplate) (sc := defScope sLPlate) (by decide +kernel)) (fun _ _ _ _ _ => pg_name (i := 11) sc_lplate.nd rfl (Or.inl rfl)) (fun _ _ _ _ _ => pts_nil) (fun _ _ _ _ _ => (pe_tup (pa_cons (pe_has H_law_num (hr.mono (by decide)) (by rfl) (pa_cons (pv 0) (pa_cons (pv 7) pa_nil))) (pa_cons (pe_has H_law_num (hr.mono (by decide)) (by rfl) (pa_cons (pv 0) (pa_cons (pv 7) pa_nil))) pa_nil))))))))))
      (pss_mid (ps_if (pt_cmpR op_gt (pv 1) pe_int (nomark _)) (pss_one (ps_set (i := 3) sc_lplate.nd rfl (Or.inl rfl) (pe_slice sl_list (pe_op op_cat (pv 3) (pe_lc (own := [("_law_x", 9), ("_law_y", 10)]) (g := gPair K 9 10) (tt := tYes) rfl sc_lplate.nd (pi_list (pv 3)) (blkOk_by (N := n_lplate) (sc := defScope sLPlate) (by decide +kernel)) (fun _ _ _ _ _ => pg_tup rfl (pgs_cons (pg_name (i := 9) sc_lplate.nd rfl (Or.inl rfl)) (pgs_cons (pg_name (i := 10) sc_lplate.nd rfl (Or.inl rfl)) pgs_nil))) (fun _ _ _ _ _ => pts_nil) (fun _ _ _ _ _ => (pe_tup (pa_cons (pe_un un_neg (pv 9)) (pa_cons (pe_un un_neg (pv 10)) pa_nil)))))) po_none (po_some pe_int)))) pss_nil)
      (pss_cons (ps_set (i := 8) sc_lplate.nd rfl (Or.inl rfl) (pe_has H_law_hull (hr.mono (by decide)) (by rfl) (pa_cons (pe_lc (own := [("_law_x", 9), ("_law_y", 10)]) (g := gPair K 9 10) (tt := tYes) rfl sc_lplate.nd (pi_list (pv 3)) (blkOk_by (N := n_lplate) (sc := defScope sLPlate) (by decide +kernel)) (fun _ _ _ _ _ => pg_tup rfl (pgs_cons (pg_name (i := 9) sc_lplate.nd rfl (Or.inl rfl)) (pgs_cons (pg_name (i := 10) sc_lplate.nd rfl (Or.inl rfl)) pgs_nil))) (fun _ _ _ _ _ => pts_nil) (fun _ _ _ _ _ => (pe_has H_law_spot (hr.mono (by decide)) (by rfl) (pa_cons (pv 9) (pa_cons (pv 10) (pa_cons (pv 2) pa_nil)))))) pa_nil)))
      (pss_one (ps_ret (pe_ifExp (pt_cmpR op_gt (pe_callB (r := Ur.rLen K) Ur.len_seq (by rfl) T.len PySem.boot_len (pa_cons (pv 8) pa_nil)) pe_int (nomark _)) (pv 8) (pe_tup (pa_cons (pe_tup (pa_cons pe_int (pa_cons pe_int (pa_cons pe_int pa_nil)))) (pa_cons (pe_tup (pa_cons pe_int (pa_cons pe_int (pa_cons pe_int pa_nil)))) (pa_cons (pe_tup (pa_cons pe_int (pa_cons pe_int (pa_cons pe_int pa_nil)))) pa_nil))))))))))), ?_⟩
    refine ⟨_, rfl, u, 5, rfl, hu, by decide, by decide, fun k H1 k0 k1 s1 => ?_⟩
    refine ⟨_, rfl, by show 6 ≤ sizeLine; decide, fun l hl => ⟨u, l, _, rfl, same_new hl _ _ (s1 _ _ hu), upd_same, by decide, by decide, fun x H2 hx s2 => ⟨by show 2 ≤ sizeLine; decide, fun p hp => ⟨p, _, rfl, SqT.of upd_same, rfl, _, _, rfl, _, _, rfl, rfl, ?_⟩⟩⟩⟩
    obtain ⟨ov, rfl, ov0, ov1⟩ := menu (l := [1, 1, 1, 2, 3, 5]) (lo := 1) (hi := 5) hx (by decide)
    have s3 := s1.trans ((same_new (p := l) (o := HO.lst [V.int 1, .int 1, .int 1, .int 2, .int 3, .int 5]) hl).trans (s2.trans (same_new (p := p) (o := HO.tup [V.int k, .int ov]) hp)))
    generalize upd H2 p (.tup [V.int k, .int ov]) = H3 at s3 ⊢
    refine ⟨fun σ' H' => ∃ (D : Addr) (o4 o5 o6 o7 : Option V), σ' = [some (.ref u), some (.int k), some (.int ov), some (.ref D), o4, o5, o6, o7, none, none, none, none, none] ∧ Same H H' ∧ Drw H' D 8, ?_, ?_⟩
    · refine ⟨_, rfl, rfl, _, rfl, ?_⟩
      refine ite2 (fun _
            => ?_) (fun _ => ?_)
      · -- corners on both axes
        refine ⟨by show 2 ≤ sizeLine; decide, fun a1 ha1 => ?_⟩
        have z1 := s3.trans (same_new (p := a1) (o := HO.tup [V.int 0, .int 0]) ha1)
        have g1 : (upd H3 a1 (.tup [V.int 0, .int 0])) a1 = some (.tup [V.int 0, .int 0]) := upd_same
        generalize upd H3 a1 (.tup [V.int 0, .int 0]) = H4 at z1 g1 ⊢
        refine ⟨_, rfl, u, 4, rfl, z1 _ _ hu, by decide, by decide, fun r1 H5 r10 r11 s5 => ⟨_, _, rfl, rfl, by show 2 ≤ sizeLine; decide, fun a2 ha2 => ?_⟩⟩
        have z2 := (s5.trans (same_new (p := a2) (o := HO.tup [V.int (1 + r1), .int 0]) ha2))
        have g2 : (upd H5 a2 (.tup [V.int (1 + r1), .int 0])) a2 = some (.tup [V.int (1 + r1), .int 0]) := upd_same
        generalize upd H5 a2 (.tup [V.int (1 + r1), .int 0]) = H6 at z2 g2 ⊢
        refine ⟨_, rfl, u, 4, rfl, z2 _ _ (z1 _ _ hu), by decide, by decide, fun r2 H7 r20 r21 s7 => ⟨_, _, rfl, rfl, by show 2 ≤ sizeLine; decide, fun a3 ha3 => ⟨by show 3 ≤ sizeLine; decide, fun ls hls => ?_⟩⟩⟩
        have z3 := s7.trans ((same_new (p := a3) (o := HO.tup [V.int 0, .int (1 + r2)]) ha3).trans (same_new (p := ls) (o := HO.lst [V.ref a1, .ref a2, .ref a3]) hls))
        have g3 := same_new (p := ls) (o := HO.lst [V.ref a1, .ref a2, .ref a3]) hls _ _ (upd_same (H := H7) (a := a3) (o := HO.tup [V.int 0, .int (1 + r2)]))
        have gl : (upd (upd H7 a3 (.tup [V.int 0, .int (1 + r2)])) ls (.lst [V.ref a1, .ref a2, .ref a3])) ls = some (.lst [V.ref a1, .ref a2, .ref a3]) := upd_same
        generalize upd (upd H7 a3 (.tup [V.int 0, .int (1 + r2)])) ls (.lst [V.ref a1, .ref a2, .ref a3]) = H8 at z3 g3 gl ⊢
        have y1 := z3 _ _ (z2 _ _ g1)
        have y2 := z3 _ _ g2
        have zz := z1.trans (z2.trans z3)
        refine ⟨_, rfl, u, 3, rfl, zz _ _ hu, by decide, by decide, fun r3 H9 r30 r31 s9 => ⟨_, _, rfl, rfl, _, rfl, ?_⟩⟩
        have m1 : Sm H9 (.ref a1) := Sm.of (s9 _ _ y1) (by decide) (by decide)
        have m2 : Sm H9 (.ref a2) := Sm.of (s9 _ _ y2) (by omega) (by decide)
        have m3 : Sm H9 (.ref a3) := Sm.of (s9 _ _ g3) (by decide) (by omega)
        refine ite2 (fun _
              => ?_) (fun _ => ?_)
        · refine ⟨_, rfl, _, rfl, ls, _, 1, .ref a2, rfl, rfl, SqL.of (s9 _ _ gl), rfl, a2, _, 0, _, rfl, rfl, SqT.of (s9 _ _ y2), rfl, _, rfl, ls, _, 2, .ref a3, rfl, rfl, SqL.of (s9 _ _ gl), rfl, a3, _, 1, _, rfl, rfl, SqT.of (s9 _ _ g3), rfl, by show 2 ≤ sizeLine; decide, fun a4 ha4 => ⟨by show 1 ≤ sizeLine; decide, fun l4 hl4 => ?_⟩⟩
          have z4 := (same_new (p := a4) (o := HO.tup [V.int (1 + r1), .int (1 + r2)]) ha4).trans (same_new (p := l4) (o := HO.lst [V.ref a4]) hl4)
          have g4 := same_new (p := l4) (o := HO.lst [V.ref a4]) hl4 _ _ (upd_same (H := H9) (a := a4) (o := HO.tup [V.int (1 + r1), .int (1 + r2)]))
          refine ⟨_, _, _, _, rfl, rfl, z4 _ _ (s9 _ _ gl), upd_same, by show 3 + 1 ≤ sizeLine; decide, fun l5 hl5 => ⟨l5, _, _, _, _, rfl, zz.trans ((s9.trans z4).trans (same_new hl5)), ⟨_, upd_same, by simp, fun z hz => ?_⟩⟩⟩
          have z5 := z4.trans (same_new (p := l5) (o := HO.lst ([V.ref a1, .ref a2, .ref a3] ++ [V.ref a4])) hl5)
          simp only [List.cons_append, List.nil_append, List.mem_cons, List.not_mem_nil, or_false] at hz
          rcases hz with rfl | rfl | rfl | rfl
          · exact m1.same z5
          · exact m2.same z5
          · exact m3.same z5
          · exact Sm.of (same_new hl5 _ _ g4) (by omega) (by omega)
        · refine ⟨_, rfl, ls, _, _, _, _, rfl, zz.trans s9, ⟨_, s9 _ _ gl, by simp, fun z hz => ?_⟩⟩
          simp only [List.mem_cons, List.not_mem_nil, or_false] at hz
          rcases hz with rfl | rfl | rfl
          · exact m1
          · exact m2
          · exact m3
      · refine ⟨_, rfl, rfl, _, rfl, ?_⟩
        refine ite2 (fun _
              => ?_) (fun _ => ?_)
        · -- points of a bow
          refine ⟨_, rfl, u, 2, rfl, s3 _ _ hu, by decide, by decide, fun le H4 le0 le1 s4 => ?_⟩
          refine ⟨_, rfl, by show 3 ≤ sizeLine; decide, fun l2 hl2 => ⟨u, l2, _, rfl, same_new hl2 _ _ (s4 _ _ (s3 _ _ hu)), upd_same, by decide, by decide, fun x H5 hx s5 => ⟨by show 2 ≤ sizeLine; decide, fun p2 hp2 => ⟨p2, _, rfl, SqT.of upd_same, rfl, _, _, rfl, _, _, rfl, rfl, ?_⟩⟩⟩⟩
          obtain ⟨ta, rfl, ta0, ta1⟩ := menu (l := [1, 1, 2]) (lo := 1) (hi := 2) hx (by decide)
          have s6 := s3.trans (s4.trans ((same_new (p := l2) (o := HO.lst [V.int 1, .int 1, .int 2]) hl2).trans (s5.trans (same_new (p := p2) (o := HO.tup [V.int le, .int ta]) hp2))))
          generalize upd H5 p2 (.tup [V.int le, .int ta]) = H6 at s6 ⊢
          dsimp only
          refine seq_of (asg_of ?_)
          refine lcRh (j1 := 11) (fun n => n = 9) (fun _ _ y => ∃ z : Int, y = .int z) (fun R r => r 9 H6 rfl (Same.refl _)) (fun n e => by subst e; decide) (fun H1 s1 D H1' H2' j y _ _ _ _ h => h) (fun _ => rfl) (fun n i H7 hn hi s7 Q' q' => ⟨_, rfl, u, 4, rfl, s7 _ _ (s6 _ _ hu), by decide, by decide, fun r H8 r0 r1 s8 => q' _ _ ⟨r, rfl⟩ s8⟩) (fun n D ys H7 hn hD s7 hy e1 e2 => ?_)
          subst hn
          have s67 := s6.trans s7
          refine gname_in ?_
          dsimp only
          refine asg_of ?_
          unfold tSl
          dsimp only
          refine lcRp (j := 12) (n := 9) Sm mono_sm (fun R r => r) (by decide) (fun _ => rfl) (fun i H8 hi s8 Q' q' => ?_) (fun i H8 hi s8 Q' q' => ?_) (fun D2 ys2 H8 hD2 s8 hy2 e3 e4 => ?_)
          · have hyi : ys[i]? = some ys[i] := List.getElem?_eq_getElem (by omega)
            obtain ⟨z, hz⟩ := e2 i _ hyi
            have k9 : (0 : Int) + (i : Nat) = ((i : Nat) : Int) := by omega
            exact ⟨_, rfl, _, rfl, D, _, _, .int z, rfl, rfl, SqL.of (s8 _ _ hy), by rw [k9, ← hz]; exact atI_nat hyi, _, _, rfl, rfl, _, rfl, q' _ _ (Same.refl _)⟩
          · have b4 : (0 + (i : Int) - 4).natAbs ≤ 4 := by omega
            have bt : ta.natAbs ≤ 2 := by omega
            have bl : le.natAbs ≤ 2 := by omega
            generalize 0 + (i : Int) = I at b4 ⊢
            have c1 : (ta * (I - 4)).natAbs ≤ 8 := by rw [Int.natAbs_mul]; exact Nat.mul_le_mul bt b4
            have c2 : (ta * (I - 4) * (I - 4)).natAbs ≤ 32 := by rw [Int.natAbs_mul]; exact Nat.mul_le_mul c1 b4
            have c3 : (le * (I - 4)).natAbs ≤ 8 := by rw [Int.natAbs_mul]; exact Nat.mul_le_mul bl b4
            have mm : ∀ {x y : Int}, x.natAbs ≤ 40 → y.natAbs ≤ 40 → CMulW x y := fun h k => mq (Nat.lt_of_le_of_lt h (by decide)) (Nat.lt_of_le_of_lt k (by decide))
            refine ⟨_, rfl, _, _, rfl, rfl, _, rfl, _, rfl, _, _, rfl, rfl, _, _, rfl, rfl, mm (by omega) (by omega), _, rfl, _, _, rfl, rfl, _, _, rfl, rfl, mm (by omega) (by omega), _, rfl, _, rfl, _, _, rfl, rfl, _, _, rfl, rfl, mm (by omega) (by omega), _, _, rfl, rfl, by show 2 ≤ sizeLine; decide, fun p3 hp3 => q' _ _ (Sm.of upd_same (by omega) (by omega)) (same_new hp3)⟩
          · refine ⟨8, rfl, D2, _, rfl, SqL.of hy2, fun D3 hD3 => ?_⟩
            rw [cut_8]
            exact ⟨D3, _, _, _, _, rfl, (s67.trans s8).trans (same_new hD3), ⟨_, upd_same, by rw [List.length_take]; omega, fun z hz => (e4 z (List.mem_of_mem_take hz)).same (same_new hD3)⟩⟩
        · -- any points
          refine ⟨_, rfl, by show 5 ≤ sizeLine; decide, fun l2 hl2 => ⟨u, l2, _, rfl, same_new hl2 _ _ (s3 _ _ hu), upd_same, by decide, by decide, fun x H4 hx s4 => ?_⟩⟩
          obtain ⟨hi', rfl, hi0, hi1⟩ := menu (l := [1, 2, 3, 5, 9]) (lo := 1) (hi := 9) hx (by decide)
          have s5 := s3.trans ((same_new (p := l2) (o := HO.lst [V.int 1, .int 2, .int 3, .int 5, .int 9]) hl2).trans s4)
          refine gname_in ?_
          dsimp only
          refine asg_of ?_
          refine lcRh (j1 := 11) (fun n => 0 ≤ n ∧ n ≤ 8) (fun H' _ y => Sm H' y) (fun R rr => ?_) (fun n e => by omega) (fun H1 s1 => mono_sm2) (fun _ => rfl) (fun n i H7 hn hi s7 Q' q' => ?_) (fun n D ys H7 hn hD s7 hy e1 e2 => ?_)
          · exact ⟨_, rfl, u, 6, rfl, s5 _ _ hu, by decide, by decide, fun r H5 r0 r1 s6 => ⟨_, _, rfl, rfl, rr _ H5 (by omega) s6⟩⟩
          · refine ⟨_, rfl, _, rfl, u, hi', rfl, s7 _ _ (s5 _ _ hu), by omega, by omega, fun r1 H8 r10 r11 s8 => ?_⟩
            exact ⟨_, rfl, _, rfl, u, hi', rfl, s8 _ _ (s7 _ _ (s5 _ _ hu)), by omega, by omega, fun r2 H9 r20 r21 s9 => ⟨by show 2 ≤ sizeLine; decide, fun p3 hp3 => q' _ _ (Sm.of upd_same (by omega) (by omega)) ((s8.trans s9).trans (same_new hp3))⟩⟩
          · exact ⟨D, _, _, _, _, rfl, s5.trans s7, ⟨_, hy, by omega, fun z hz => let ⟨i, hi⟩ := List.getElem?_of_mem hz; e2 i z hi⟩⟩
    · rintro σ' H' ⟨D, o4, o5, o6, o7, rfl, s4, hD⟩
      refine ⟨fun σ' H' => ∃ (D : Addr) (o4 o5 o6 o7 : Option V), σ' = [some (.ref u), some (.int k), some (.int ov), some (.ref D), o4, o5, o6, o7, none, none, none, none, none] ∧ Same H H' ∧ Drw H' D 8, ?_, ?_⟩
      · refine ⟨_, rfl, _, _, rfl, rfl, _, rfl, ?_⟩
        refine ite2 (fun _ => ?_) (fun _ => ⟨D, o4, o5, o6, o7, rfl, s4, hD⟩)
        obtain ⟨zs, hz, hzl, hzm⟩ := hD
        refine asg_of ?_
        unfold tSl tOp
        dsimp only
        refine ⟨_, rfl, ?_⟩
        have kz : ∀ z ∈ zs, Kd2 H' (kOf H') z ∧ (kOf H' z).1.natAbs ≤ 50 ∧ (kOf H' z).2.natAbs ≤ 50 := fun z h => by
          obtain ⟨p, hp, b⟩ := hzm z h
          have e := kOf_of hp
          unfold Kd2
          rw [e]
          exact ⟨hp, b⟩
        generalize kOf H' = k' at kz
        refine lcL2 (K := K) (a := D) (xs := zs) (fun i => (.int (k' (zs.getD i .non)).1, .int (k' (zs.getD i .non)).2)) (fun H' _ y => Sm H' y) mono_sm2 (fun R r => ⟨_, rfl, r⟩) (SqL.of hz) (fun i x hi => ?_) (by omega) (fun _ _ => rfl) (fun i x H5 hi s5 Q' q' => ?_) (fun D2 ys H5 hD2 s5 hy e1 e2 => ?_)
        · have gx : zs.getD i .non = x := by rw [List.getD_eq_getElem?_getD, hi]; rfl
          rw [gx]
          obtain ⟨t, e, h⟩ := (kz x (List.mem_of_getElem? hi)).1
          exact ⟨t, e, SqT.of h⟩
        · have gx : zs.getD i .non = x := by rw [List.getD_eq_getElem?_getD, hi]; rfl
          have hb := (kz x (List.mem_of_getElem? hi)).2
          rw [gx]
          exact ⟨_, rfl, _, rfl, _, rfl, _, rfl, by show 2 ≤ sizeLine; decide, fun p3 hp3 => q' _ _ (Sm.of upd_same (by omega) (by omega)) (same_new hp3)⟩
        · refine ⟨_, _, _, _, rfl, rfl, s5 _ _ hz, hy, ?_, fun D3 hD3 => ⟨8, rfl, D3, _, rfl, SqL.of upd_same, fun D4 hD4 => ?_⟩⟩
          · rw [e1]
            exact Nat.le_trans (by omega : _ ≤ 16) (by decide)
          · rw [cut_8]
            have s6 := (same_new (p := D3) (o := HO.lst (zs ++ ys)) hD3).trans (same_new (p := D4) (o := HO.lst ((zs ++ ys).take 8)) hD4)
            refine ⟨D4, _, _, _, _, rfl, s4.trans (s5.trans s6), ⟨_, upd_same, by rw [List.length_take]; omega, fun z hz' => ?_⟩⟩
            rcases List.mem_append.mp (List.mem_of_mem_take hz') with h | h
            · exact ((hzm z h).same s5).same s6
            · obtain ⟨i, hi⟩ := List.getElem?_of_mem h
              exact (e2 i z hi).same s6
      · rintro σ' H' ⟨D, o4, o5, o6, o7, rfl, s5, hD5⟩
        obtain ⟨zs, hz, hzl, hzm⟩ := hD5
        change tSeq _ _ _ _ _
        refine seq_of (asg_of ?_)
        unfold tCall tCons tNil
        dsimp only
        have kz : ∀ z ∈ zs, Kd2 H' (kOf H') z ∧ (kOf H' z).1.natAbs ≤ 50 ∧ (kOf H' z).2.natAbs ≤ 50 := fun z h => by
          obtain ⟨p, hp, b⟩ := hzm z h
          have e := kOf_of hp
          unfold Kd2
          rw [e]
          exact ⟨hp, b⟩
        generalize kOf H' = k' at kz
        refine lcL2 (K := K) (a := D) (xs := zs) (fun i => (.int (k' (zs.getD i .non)).1, .int (k' (zs.getD i .non)).2)) (fun H' i y => Tp K H' y (thin [(k' (zs.getD i .non)).1, (k' (zs.getD i .non)).2, ov])) (mono_tp _) (fun R r => ⟨_, rfl, r⟩) (SqL.of hz) (fun i x hi => ?_) (by omega) (fun _ _ => rfl) (fun i x H6 hi s6 Q' q' => ?_) (fun D2 ys H6 hD2 s6 hy e1 e2 => ?_)
        · have gx : zs.getD i .non = x := by rw [List.getD_eq_getElem?_getD, hi]; rfl
          rw [gx]
          obtain ⟨t, e, h⟩ := (kz x (List.mem_of_getElem? hi)).1
          exact ⟨t, e, SqT.of h⟩
        · have gx : zs.getD i .non = x := by rw [List.getD_eq_getElem?_getD, hi]; rfl
          have hb := (kz x (List.mem_of_getElem? hi)).2
          rw [gx] at q' ⊢
          have w50 : ∀ {n : Nat}, n ≤ 50 → n ≤ W2 := fun h => Nat.le_trans h (Nat.le_trans (by decide : 50 ≤ 2 ^ 6) (by unfold W2; exact pup (by decide)))
          exact ⟨_, rfl, _, rfl, _, rfl, _, _, ov, rfl, by omega, w50 hb.1, w50 hb.2, w50 (by omega), fun p H7 s7 tp => q' p H7 tp s7⟩
        · obtain ⟨data, hdata⟩ : ∃ data, data = zs.map fun z => thin [(k' z).1, (k' z).2, ov] := ⟨_, rfl⟩
          have hdl : data.length = ys.length := by rw [hdata, List.length_map, e1]
          have f1 : (ys.zip data).map Prod.fst = ys := List.map_fst_zip (by omega)
          have hit : ∀ m ∈ ys.zip data, Tp K H6 m.1 m.2 ∧ Pk ov.toNat m.2 := fun m hm => by
            obtain ⟨i, hi⟩ := List.getElem?_of_mem hm
            obtain ⟨h1, h2⟩ := List.getElem?_zip_eq_some.mp hi
            have hil : i < zs.length := by
              rw [← e1]
              exact (List.getElem?_eq_some_iff.mp h1).1
            have hzi : zs[i]? = some zs[i] := List.getElem?_eq_getElem hil
            have gx : zs.getD i .non = zs[i] := by rw [List.getD_eq_getElem?_getD, hzi]; rfl
            have t1 := e2 i _ h1
            rw [gx] at t1
            have e3 : m.2 = thin [(k' zs[i]).1, (k' zs[i]).2, ov] := by
              rw [hdata, List.getElem?_map, hzi] at h2
              exact (Option.some.inj h2).symm
            have hb := (kz zs[i] (List.mem_of_getElem? hzi)).2
            obtain ⟨g, x', y', w', g0, i1, i2, i3, PT⟩ := pt_thin (x := (k' zs[i]).1) (y := (k' zs[i]).2) (w := ov) (n := 100) (by omega) (by omega) (by omega) (by omega)
            rw [e3]
            refine ⟨t1, ⟨⟨x', y', w', PT.up (le_cb (k := 7) (by decide) (by decide))⟩, ?_⟩⟩
            rw [PT.eq]
            show w'.natAbs ∣ ov.toNat
            have : ov.toNat = g.natAbs * w'.natAbs := by
              rw [← Int.natAbs_mul, ← i3]
              omega
            rw [this]
            exact Nat.dvd_mul_left _ _
          have hL0 : 0 < ov.toNat := by omega
          have hL60 : ov.toNat < 2 ^ 60 := Nat.lt_of_le_of_lt (by omega : _ ≤ 5) (by decide)
          have hL1 : ov.toNat < SB := Nat.lt_of_lt_of_le hL60 (sb_ge (by decide))
          have d100 : ∀ p ∈ data, Pt3 100 p := fun p hp => by
            rw [hdata] at hp
            obtain ⟨z, hz, rfl⟩ := List.mem_map.mp hp
            have hb := (kz z hz).2
            obtain ⟨g, x', y', w', g0, i1, i2, i3, PT⟩ := pt_thin (x := (k' z).1) (y := (k' z).2) (w := ov) (n := 100) (by omega) (by omega) (by omega) (by omega)
            exact ⟨x', y', w', PT⟩
          have d40 : ∀ p ∈ data, Pt3 (2 ^ 40) p := fun p hp => (d100 p hp).up (by decide)
          have f2 : (ys.zip data).map Prod.snd = data := List.map_snd_zip (by omega)
          have hml : Sml (hullL ov.toNat ((ys.zip data).map Prod.snd)) ov.toNat := ⟨fun p hp => by
            have := hullL_mem hL0 (fun p hp => by
              obtain ⟨m, hm, rfl⟩ := List.mem_map.mp hp
              exact (hit m hm).2) hp
            rw [f2] at this
            exact d40 p this, hL60⟩
          have hty : Tny (hullL ov.toNat ((ys.zip data).map Prod.snd)) ov.toNat := ⟨fun p hp => by
            have := hullL_mem hL0 (fun p hp => by
              obtain ⟨m, hm, rfl⟩ := List.mem_map.mp hp
              exact (hit m hm).2) hp
            rw [f2] at this
            exact d100 p this, by omega⟩
          have hzl' : (ys.zip data).length ≤ 8 := by rw [List.length_zip]; omega
          refine ⟨D2, ys.zip data, ov.toNat, rfl, by rw [f1]; exact SqL.of hy, hit, by omega, hL0, fun r H7 s7 hr7 => ?_⟩
          have sall := (s5.trans s6).trans s7
          refine ⟨_, rfl, r, _, rfl, Or.inr hr7, _, _, rfl, rfl, _, rfl, ?_⟩
          rw [List.length_map]
          refine ite2 (fun c => ?_) (fun _ => ?_)
          · have h3 : 3 ≤ (hullI ov.toNat (ys.zip data)).length := by have := of_decide_eq_true c; omega
            exact ⟨_, rfl, q _ _ _ _ H7 sall (hullI_sec hL0 hL1 (fun m hm => ⟨(hit m hm).1.same s7, (hit m hm).2⟩) hzl' h3 hr7) hml hty⟩
          · refine ⟨by show 3 ≤ sizeLine; decide, fun a1 ha1 => ⟨by show 3 ≤ sizeLine; decide, fun a2 ha2 => ⟨by show 3 ≤ sizeLine; decide, fun a3 ha3 => ⟨by show 3 ≤ sizeLine; decide, fun a4 ha4 => ?_⟩⟩⟩⟩
            have n1 := same_new (p := a1) (o := HO.tup [V.int 0, .int 0, .int 1]) ha1
            have n2 := same_new (p := a2) (o := HO.tup [V.int 2, .int 0, .int 1]) ha2
            have n3 := same_new (p := a3) (o := HO.tup [V.int 1, .int 1, .int 1]) ha3
            have n4 := same_new (p := a4) (o := HO.tup [V.ref a1, .ref a2, .ref a3]) ha4
            have g1 := n4 _ _ (n3 _ _ (n2 _ _ (upd_same (a := a1) (o := HO.tup [V.int 0, .int 0, .int 1]))))
            have g2 := n4 _ _ (n3 _ _ (upd_same (a := a2) (o := HO.tup [V.int 2, .int 0, .int 1])))
            have g3 := n4 _ _ (upd_same (a := a3) (o := HO.tup [V.int 1, .int 1, .int 1]))
            refine q (.ref a4) [V.ref a1, .ref a2, .ref a3] [[0, 0, 1], [2, 0, 1], [1, 1, 1]] 1 _ (sall.trans (((n1.trans n2).trans n3).trans n4)) ⟨⟨a4, rfl, SqT.of upd_same⟩, ⟨rfl, fun i y p hy hp => ?_⟩, tri_sec⟩ tri_sml tri_tny
            match i, hy, hp with
            | 0, hy, hp => cases hy; cases hp; exact ⟨a1, rfl, SqT.of g1⟩
            | 1, hy, hp => cases hy; cases hp; exact ⟨a2, rfl, SqT.of g2⟩
            | 2, hy, hp => cases hy; cases hp; exact ⟨a3, rfl, SqT.of g3⟩
end
end K05
namespace K05
open PySem L2 Ur Hull
/-! ### heights as whole numbers over one -/
def hv (S : Nat) (n : Int) : List Int := thin [n, (S : Nat)]
theorem ht_hv {S : Nat} (h0 : 0 < S) {p : List Int} (h : Pk S p) (c s : Int) : htF c s p = hv S (ht c s (fsc S p)) := by
  obtain ⟨x, y, w, k, A, k0, hS, e⟩ := pk_form h0 h
  have ep := A.eq
  subst ep
  rw [e]
  unfold hv
  have e1 : htF c s [x, y, w] = thin [c * x + s * y, w] := by
    show thin [c * x + s * y, 1 * w] = _
    rw [Int.one_mul]
  have e2 : ht c s (x * k, y * k) = k * (c * x + s * y) := by unfold ht; simp only; grind
  rw [e1, e2, hS, Int.mul_comm w k, thin2_mul k0 A.pos]
theorem hv_form {S : Nat} (h0 : 0 < S) (n : Int) : ∃ g p r : Int, 0 < g ∧ n = g * p ∧ (S : Int) = g * r ∧ hv S n = [p, r] ∧ 0 < r ∧ Nat.gcd p.natAbs r.natAbs = 1 := by
  obtain ⟨g, p, r, g0, e1, e2, e3, e4⟩ := thin2 (x := n) (w := (S : Int)) (by omega)
  exact ⟨g, p, r, g0, e1, e2, e3, pos_of g0 (by rw [← e2]; omega), e4⟩
theorem hv_ord {S : Nat} (h0 : 0 < S) (n m : Int) : ordL (hv S n) (hv S m) = sgn (n - m) := by
  obtain ⟨g, p, r, g0, e1, e2, e3, r0, _⟩ := hv_form h0 n
  obtain ⟨g', p', r', g0', e1', e2', e3', r0', _⟩ := hv_form h0 m
  rw [e3, e3']
  show sgn (p * r' - p' * r) = _
  have h1 : (n - m) * (r * r') = (S : Int) * (p * r' - p' * r) := by
    have a1 : n * (r * r') = (S : Int) * (p * r') := by rw [e1, e2]; grind
    have a2 : m * (r * r') = (S : Int) * (p' * r) := by rw [e1', e2']; grind
    grind
  have h2 : sgn ((r * r') * (n - m)) = sgn (n - m) := sgn_pos (Int.mul_pos r0 r0')
  have h3 : sgn ((S : Int) * (p * r' - p' * r)) = sgn (p * r' - p' * r) := sgn_pos (by omega)
  rw [← h3, ← h1, Int.mul_comm, h2]
theorem sgn_lt {n : Int} : sgn n < 0 ↔ n < 0 := by unfold sgn; split <;> (try split) <;> omega
def mnI (l a : Int) : Int := if a < l then a else l
def mxI (l a : Int) : Int := if l < a then a else l
theorem low_hv {S : Nat} (h0 : 0 < S) (l a : Int) : lowF (hv S l) (hv S a) = hv S (mnI l a) := by
  unfold lowF mnI
  rw [hv_ord h0]
  have : sgn (a - l) < 0 ↔ a < l := by rw [sgn_lt]; omega
  by_cases c : a < l
  · rw [if_pos c, if_pos (this.mpr c)]
  · rw [if_neg c, if_neg (fun z => c (this.mp z))]
theorem high_hv {S : Nat} (h0 : 0 < S) (l a : Int) : highF (hv S l) (hv S a) = hv S (mxI l a) := by
  unfold highF mxI
  rw [hv_ord h0]
  have : sgn (l - a) < 0 ↔ l < a := by rw [sgn_lt]; omega
  by_cases c : l < a
  · rw [if_pos c, if_pos (this.mpr c)]
  · rw [if_neg c, if_neg (fun z => c (this.mp z))]
theorem fold_low {S : Nat} (h0 : 0 < S) : ∀ (ns : List Int) (l : Int), (ns.map (hv S)).foldl lowF (hv S l) = hv S (ns.foldl mnI l)
  | [], l => rfl
  | n :: r, l => by
    rw [List.map_cons, List.foldl_cons, low_hv h0, fold_low h0 r]
    rfl
theorem fold_high {S : Nat} (h0 : 0 < S) : ∀ (ns : List Int) (l : Int), (ns.map (hv S)).foldl highF (hv S l) = hv S (ns.foldl mxI l)
  | [], l => rfl
  | n :: r, l => by
    rw [List.map_cons, List.foldl_cons, high_hv h0, fold_high h0 r]
    rfl
theorem fold_mn : ∀ (ns : List Int) (l : Int), ns.foldl mnI l ≤ l ∧ (∀ n ∈ ns, ns.foldl mnI l ≤ n) ∧ (ns.foldl mnI l = l ∨ ns.foldl mnI l ∈ ns)
  | [], l => ⟨Int.le_refl _, by simp, Or.inl rfl⟩
  | n :: r, l => by
    obtain ⟨a, b, c⟩ := fold_mn r (mnI l n)
    have h1 : mnI l n ≤ l := by unfold mnI; split <;> omega
    have h2 : mnI l n ≤ n := by unfold mnI; split <;> omega
    refine ⟨Int.le_trans a h1, fun m hm => ?_, ?_⟩
    · rcases List.mem_cons.mp hm with rfl | k
      · exact Int.le_trans a h2
      · exact b m k
    · rcases c with c | c
      · have : mnI l n = l ∨ mnI l n = n := by unfold mnI; split <;> simp
        rcases this with e | e
        · exact Or.inl (c.trans e)
        · exact Or.inr (List.mem_cons.mpr (Or.inl (c.trans e)))
      · exact Or.inr (List.mem_cons_of_mem _ c)
theorem fold_mx : ∀ (ns : List Int) (l : Int), l ≤ ns.foldl mxI l ∧ (∀ n ∈ ns, n ≤ ns.foldl mxI l) ∧ (ns.foldl mxI l = l ∨ ns.foldl mxI l ∈ ns)
  | [], l => ⟨Int.le_refl _, by simp, Or.inl rfl⟩
  | n :: r, l => by
    obtain ⟨a, b, c⟩ := fold_mx r (mxI l n)
    have h1 : l ≤ mxI l n := by unfold mxI; split <;> omega
    have h2 : n ≤ mxI l n := by unfold mxI; split <;> omega
    refine ⟨Int.le_trans h1 a, fun m hm => ?_, ?_⟩
    · rcases List.mem_cons.mp hm with rfl | k
      · exact Int.le_trans h2 a
      · exact b m k
    · rcases c with c | c
      · have : mxI l n = l ∨ mxI l n = n := by unfold mxI; split <;> simp
        rcases this with e | e
        · exact Or.inl (c.trans e)
        · exact Or.inr (List.mem_cons.mpr (Or.inl (c.trans e)))
      · exact Or.inr (List.mem_cons_of_mem _ c)
/-- the least of a row, told by what it is -/
theorem mn_is {n : Int} {ns : List Int} {v : Int} (h1 : v ∈ n :: ns) (h2 : ∀ m ∈ n :: ns, v ≤ m) : ns.foldl mnI n = v := by
  obtain ⟨a, b, c⟩ := fold_mn ns n
  have h3 : v ≤ ns.foldl mnI n := h2 _ (List.mem_cons.mpr c)
  rcases List.mem_cons.mp h1 with e | k
  · omega
  · have := b v k
    omega
theorem mx_is {n : Int} {ns : List Int} {v : Int} (h1 : v ∈ n :: ns) (h2 : ∀ m ∈ n :: ns, m ≤ v) : ns.foldl mxI n = v := by
  obtain ⟨a, b, c⟩ := fold_mx ns n
  have h3 : ns.foldl mxI n ≤ v := h2 _ (List.mem_cons.mpr c)
  rcases List.mem_cons.mp h1 with e | k
  · omega
  · have := b v k
    omega
/-! ### the heights of a section -/
def hgt (S : Nat) (c s : Int) (pts : List (List Int)) : List Int := pts.map fun p => ht c s (fsc S p)
def minL : List Int → Int
  | [] => 0
  | n :: r => r.foldl mnI n
def maxL : List Int → Int
  | [] => 0
  | n :: r => r.foldl mxI n
theorem minL_is {ns : List Int} {v : Int} (h1 : v ∈ ns) (h2 : ∀ m ∈ ns, v ≤ m) : minL ns = v := by
  cases ns with
  | nil => cases h1
  | cons n r => exact mn_is h1 h2
theorem maxL_is {ns : List Int} {v : Int} (h1 : v ∈ ns) (h2 : ∀ m ∈ ns, m ≤ v) : maxL ns = v := by
  cases ns with
  | nil => cases h1
  | cons n r => exact mx_is h1 h2
theorem minL_of {ns : List Int} (h : ns ≠ []) : minL ns ∈ ns ∧ ∀ m ∈ ns, minL ns ≤ m := by
  cases ns with
  | nil => exact (h rfl).elim
  | cons n r =>
    obtain ⟨a, b, c⟩ := fold_mn r n
    exact ⟨List.mem_cons.mpr c, fun m hm => by
      rcases List.mem_cons.mp hm with e | k
      · rw [e]; exact a
      · exact b m k⟩
theorem maxL_of {ns : List Int} (h : ns ≠ []) : maxL ns ∈ ns ∧ ∀ m ∈ ns, m ≤ maxL ns := by
  cases ns with
  | nil => exact (h rfl).elim
  | cons n r =>
    obtain ⟨a, b, c⟩ := fold_mx r n
    exact ⟨List.mem_cons.mpr c, fun m hm => by
      rcases List.mem_cons.mp hm with e | k
      · rw [e]; exact a
      · exact b m k⟩
theorem lo_is {S : Nat} (h0 : 0 < S) {pts : List (List Int)} (h : ∀ p ∈ pts, Pk S p) (hne : pts ≠ []) (c s : Int) : loOf (pts.map (htF c s)) = hv S (minL (hgt S c s pts)) := by
  have e : pts.map (htF c s) = (hgt S c s pts).map (hv S) := by
    unfold hgt
    rw [List.map_map]
    exact List.map_congr_left fun p hp => ht_hv h0 (h p hp) c s
  rw [e]
  cases pts with
  | nil => exact (hne rfl).elim
  | cons p r => exact fold_low h0 _ _
theorem hi_is {S : Nat} (h0 : 0 < S) {pts : List (List Int)} (h : ∀ p ∈ pts, Pk S p) (hne : pts ≠ []) (c s : Int) : hiOf (pts.map (htF c s)) = hv S (maxL (hgt S c s pts)) := by
  have e : pts.map (htF c s) = (hgt S c s pts).map (hv S) := by
    unfold hgt
    rw [List.map_map]
    exact List.map_congr_left fun p hp => ht_hv h0 (h p hp) c s
  rw [e]
  cases pts with
  | nil => exact (hne rfl).elim
  | cons p r => exact fold_high h0 _ _
/-! ### upside down -/
def negF : List Int → List Int
  | [t, e] => [-t, e]
  | _ => []
theorem hv_neg {S : Nat} (h0 : 0 < S) (n : Int) : hv S (-n) = negF (hv S n) := by
  obtain ⟨g, p, r, g0, e1, e2, e3, r0, e4⟩ := hv_form h0 n
  rw [e3]
  show hv S (-n) = [-p, r]
  have : hv S (-n) = thin [-p, r] := by
    unfold hv
    have : -n = g * -p := by rw [e1]; grind
    rw [this, e2, thin2_mul g0 r0]
  rw [this]
  refine thin_one ?_
  rw [gAll_2, Int.natAbs_neg]
  exact e4
theorem hgt_neg (S : Nat) (c s : Int) (pts : List (List Int)) : hgt S (-c) (-s) pts = (hgt S c s pts).map fun n => -n := by
  unfold hgt
  rw [List.map_map]
  refine List.map_congr_left
        fun p _ => ?_
  show ht (-c) (-s) (fsc S p) = - ht c s (fsc S p)
  unfold ht
  grind
theorem minL_neg {ns : List Int} (h : ns ≠ []) : minL (ns.map fun n => -n) = - maxL ns := by
  obtain ⟨a, b⟩ := maxL_of h
  refine minL_is (List.mem_map.mpr ⟨_, a, rfl⟩) fun m hm => ?_
  obtain ⟨n, hn, rfl⟩ := List.mem_map.mp hm
  have := b n hn
  omega
theorem maxL_neg {ns : List Int} (h : ns ≠ []) : maxL (ns.map fun n => -n) = - minL ns := by
  obtain ⟨a, b⟩ := minL_of h
  refine maxL_is (List.mem_map.mpr ⟨_, a, rfl⟩) fun m hm => ?_
  obtain ⟨n, hn, rfl⟩ := List.mem_map.mp hm
  have := b n hn
  omega
/-! ### turned -/
theorem qtr_pk {S : Nat} {p : List Int} (h : Pk S p) : Pk S (qtrL p) := by
  obtain ⟨x, y, w, A⟩ := h.pt
  have hd := h.dv
  have e := A.eq
  subst e
  exact ⟨⟨-y, x, w, pt_qtr A⟩, hd⟩
theorem qtr_rot {S : Nat} {p : List Int} (h : Pk S p) : fsc S (qtrL p) = rot (fsc S p) := by
  obtain ⟨x, y, w, A⟩ := h.pt
  have e := A.eq
  subst e
  show (-y * ((S : Int) / w), x * ((S : Int) / w)) = (-(y * ((S : Int) / w)), x * ((S : Int) / w))
  rw [Int.neg_mul]
theorem turn_min {S : Nat} (h0 : 0 < S) {pts : List (List Int)} (h : ∀ p ∈ pts, Pk S p) (hne : pts ≠ []) (c s : Int) : minL (hgt S (-s) c (hullL S (pts.map qtrL))) = minL (hgt S c s pts) ∧ maxL (hgt S (-s) c (hullL S (pts.map qtrL))) = maxL (hgt S c s pts) := by
  have hq : ∀ p ∈ pts.map qtrL, Pk S p := fun p hp => by
    obtain ⟨q, hq, rfl⟩
          := List.mem_map.mp hp
    exact qtr_pk (h q hq)
  have hh : ∀ p ∈ pts, ht (-s) c (fsc S (qtrL p)) = ht c s (fsc S p) := fun p hp => by
    rw [qtr_rot (h p hp)]
    unfold ht rot
    simp only
    grind
  have eA : hgt S (-s) c (hullL S (pts.map qtrL)) = (hl ((pts.map qtrL).map (fsc S))).map (ht (-s) c) := by
    rw [← hullL_map h0 hq]
    unfold hgt
    rw [List.map_map]
    rfl
  have sub : ∀ n ∈ hgt S (-s) c (hullL S (pts.map qtrL)), n ∈ hgt S c s pts := fun n hn => by
    rw [eA] at hn
    obtain ⟨q, hq', rfl⟩ := List.mem_map.mp hn
    obtain ⟨p', hp', rfl⟩ := List.mem_map.mp (hl_sub hq')
    obtain ⟨p, hp, rfl⟩ := List.mem_map.mp hp'
    exact List.mem_map.mpr ⟨p, hp, (hh p hp).symm⟩
  have below : ∀ n ∈ hgt S c s pts, ∃ m ∈ hgt S (-s) c (hullL S (pts.map qtrL)), m ≤ n := fun n hn => by
    obtain ⟨p, hp, rfl⟩ := List.mem_map.mp hn
    obtain ⟨d, hd, k⟩ := hl_min (-s) c (l := (pts.map qtrL).map (fsc S)) (q := fsc S (qtrL p)) (List.mem_map.mpr ⟨_, List.mem_map.mpr ⟨p, hp, rfl⟩, rfl⟩)
    refine ⟨ht (-s) c d, by rw [eA]; exact List.mem_map.mpr ⟨d, hd, rfl⟩, ?_⟩
    rw [hh p hp] at k
    exact k
  have above : ∀ n ∈ hgt S c s pts, ∃ m ∈ hgt S (-s) c (hullL S (pts.map qtrL)), n ≤ m := fun n hn => by
    obtain ⟨p, hp, rfl⟩ := List.mem_map.mp hn
    obtain ⟨d, hd, k⟩ := hl_min s (-c) (l := (pts.map qtrL).map (fsc S)) (q := fsc S (qtrL p)) (List.mem_map.mpr ⟨_, List.mem_map.mpr ⟨p, hp, rfl⟩, rfl⟩)
    refine ⟨ht (-s) c d, by rw [eA]; exact List.mem_map.mpr ⟨d, hd, rfl⟩, ?_⟩
    have n1 : ht s (-c) d = - ht (-s) c d := by unfold ht; grind
    have n2 : ht s (-c) (fsc S (qtrL p)) = - ht (-s) c (fsc S (qtrL p)) := by unfold ht; grind
    have := hh p hp
    omega
  have hne2 : hgt S c s pts ≠ [] := by unfold hgt; simpa using hne
  obtain ⟨a1, b1⟩ := minL_of hne2
  obtain ⟨a2, b2⟩ := maxL_of hne2
  constructor
  · obtain ⟨m, hm, k⟩ := below _ a1
    have := b1 m (sub m hm)
    have e : m = minL (hgt S c s pts) := by omega
    exact minL_is (e ▸ hm) fun n hn => b1 n (sub n hn)
  · obtain ⟨m, hm, k⟩ := above _ a2
    have := b2 m (sub m hm)
    have e : m = maxL (hgt S c s pts) := by omega
    exact maxL_is (e ▸ hm) fun n hn => b2 n (sub n hn)
/-! ### texts of data of some size -/
structure Big (d : PyData) (n k : Nat) : Prop where
  ls : PyData.leavesShort 300 d = true
  wt : d.weight ≤ n
  sh : d.showable = true
  hd : d.hasDict = false
  dp : d.depth ≤ k
structure BigA (ds : List PyData) (n k : Nat) : Prop where
  ls : PyData.leavesShortAll 300 ds = true
  wt : PyData.weightAll ds ≤ n
  sh : PyData.showableAll ds = true
  hd : PyData.hasDictAll ds = false
  dp : PyData.depthAll ds ≤ k
theorem BigA.nil {k : Nat} : BigA [] 0 k := ⟨rfl, Nat.le_refl _, rfl, rfl, Nat.zero_le _⟩
theorem BigA.cons {d : PyData} {ds : List PyData} {n m k : Nat} (h : Big d n k) (t : BigA ds m k) : BigA (d :: ds) (n + 1 + m) k := by
  refine ⟨?_, ?_, ?_, ?_, ?_⟩
  · show (PyData.leavesShort 300 d && PyData.leavesShortAll 300 ds) = true
    rw [h.ls, t.ls]
    rfl
  · show d.weight + 1 + PyData.weightAll ds ≤ n + 1 + m
    have := h.wt
    have := t.wt
    omega
  · show (d.showable && PyData.showableAll ds) = true
    rw [h.sh, t.sh]
    rfl
  · show (d.hasDict || PyData.hasDictAll ds) = false
    rw [h.hd, t.hd]
    rfl
  · show max d.depth (PyData.depthAll ds) ≤ k
    have := h.dp
    have := t.dp
    omega
theorem Big.tup {ds : List PyData} {n k : Nat} (h : BigA ds n k) : Big (.tuple ds) n (k + 1) := ⟨h.ls, h.wt, h.sh, h.hd, Nat.succ_le_succ h.dp⟩
theorem Big.lst {ds : List PyData} {n k : Nat} (h : BigA ds n k) : Big (.list ds) n (k + 1) := ⟨h.ls, h.wt, h.sh, h.hd, Nat.succ_le_succ h.dp⟩
theorem Big.up {d : PyData} {n k m j : Nat} (h : Big d n k) (h1 : n ≤ m) (h2 : k ≤ j) : Big d m j := ⟨h.ls, Nat.le_trans h.wt h1, h.sh, h.hd, Nat.le_trans h.dp h2⟩
theorem big_int {n : Int} (h : n.natAbs < 2 ^ 800) : Big (.int n) 801 0 := by
  have e := int_text_length_le10 (a := n) (k := 299) (by decide) (Nat.lt_of_lt_of_le h (by decide +kernel))
  have l : n.natAbs.log2 < 800 := by
    by_cases z : n.natAbs = 0
    · rw [z]; decide
    · exact (Nat.log2_lt z).mpr h
  refine ⟨decide_eq_true ?_, ?_, decide_eq_true (by omega), rfl, Nat.zero_le _⟩
  · show (Str.ofString (toString n)).length ≤ 300
    rw [ofString_length]
    exact e
  · show (if n == 0 then 0 else n.natAbs.log2 + 1) ≤ 801
    split <;> omega
theorem big_fr {a : List Int} (h : Fr (2 ^ 790) a) : Big (tupD a) 1604 1 := by
  obtain ⟨t, e, A⟩ := h
  have ea := A.eq
  subst ea
  have lt : ∀ {z : Int}, z.natAbs ≤ 2 ^ 790 → z.natAbs < 2 ^ 800 := fun h => Nat.lt_of_le_of_lt h (Nat.pow_lt_pow_right (by decide) (by decide))
  exact Big.tup (.cons (big_int (lt A.bt)) (.cons (big_int (lt A.bb)) .nil))
theorem big_frs : ∀ {as : List (List Int)}, (∀ a ∈ as, Fr (2 ^ 790) a) → BigA (as.map tupD) (1605 * as.length) 1
  | [], _ => .nil
  | a :: r, h => by
    have := BigA.cons (big_fr (h a List.mem_cons_self)) (big_frs (as := r) fun x hx => h x (List.mem_cons_of_mem _ hx))
    have e : 1605 * (a :: r).length = 1604 + 1 + 1605 * r.length := by rw [List.length_cons]; omega
    rw [e]
    exact this
/-- what repr asks -/
theorem rep_big {K : PySem.W.Frag} {H : Hp} {a : Addr} {d : PyData} {n k : Nat} {Q : VK} (hd : Dp K H (.ref a) d) (o : Big d n k) (hn : n ≤ 50000) (hk : k ≤ 60) (q : Q (.str d.shown) H) : rRepr K [.ref a] H Q := by
  have h := PyData.shown_le 300 (by decide) d o.ls
  have hw := o.wt
  exact ⟨a, d, rfl, hd, o.sh, o.hd, Nat.le_trans h (Nat.le_trans (by omega : (300 + 2) * d.weight + 300 ≤ 16200000) (by decide)), Nat.le_trans o.dp hk, q⟩
end K05
namespace K05
open PySem L2 Ur Hull
/-! ### area and middle by sums once round -/
theorem sumTo_first (F : Nat → Int) : ∀ n : Nat, sumTo F (n + 1) = F 0 + sumTo (fun i => F (i + 1)) n
  | 0 => by show (0 : Int) + F 0 = F 0 + 0; omega
  | n + 1 => by
    have ih := sumTo_first F n
    show sumTo F (n + 1) + F (n + 1) = F 0 + (sumTo (fun i => F (i + 1)) n + F (n + 1))
    omega
theorem sumTo_ext {F G : Nat → Int} : ∀ {n : Nat}, (∀ i, i < n → F i = G i) → sumTo F n = sumTo G n
  | 0, _ => rfl
  | n + 1, h => by
    show sumTo F n + F n = sumTo G n + G n
    rw [sumTo_ext fun i hi => h i (Nat.lt_succ_of_lt hi), h n (Nat.lt_succ_self n)]
theorem sumTo_seg (f : P → P → Int) : ∀ r : List P, sumTo (fun i => f (nthP r i) (nthP r (i + 1))) (r.length - 1) = seg f r
  | [] => rfl
  | [_] => rfl
  | a :: b :: r => by
    have ih := sumTo_seg f (b :: r)
    show sumTo _ (r.length + 1) = f a b + seg f (b :: r)
    rw [sumTo_first, ← ih]
    rfl
theorem area_cyc (x : P) (r : List P) : areaC (x :: r) = cyc gA (x :: r) := by
  rw [← fan_cyc gA_anti x r]
  have e : (fun b c => gA x b + gA b c + gA c x) = fun b c => tt x b c := by funext b c; exact gA_fan x b c
  rw [e, ← sumTo_seg]
  exact sumTo_ext fun i _ => rfl
theorem seg_lin {f g h : P → P → Int} {k : Int} (e : ∀ b c, f b c = k * g b c + h b c) : ∀ r : List P, seg f r = k * seg g r + seg h r
  | [] => by show (0 : Int) = k * 0 + 0; omega
  | [_] => by show (0 : Int) = k * 0 + 0; omega
  | a :: b :: r => by
    show f a b + seg f (b :: r) = k * (g a b + seg g (b :: r)) + (h a b + seg h (b :: r))
    rw [e, seg_lin e, Int.mul_add]
    omega
theorem momX_cyc (x : P) (r : List P) : 3 * areaC (x :: r) * x.1 + areaX (x :: r) = cyc gX (x :: r) := by
  rw [← fan_cyc gX_anti x r]
  have e1 : areaC (x :: r) = seg (fun b c => tt x b c) r := by
    rw [← sumTo_seg]
    exact sumTo_ext fun i _ => rfl
  have e2 : areaX (x :: r) = seg (fun b c => ((b.1 - x.1) + (c.1 - x.1)) * tt x b c) r := by
    rw [← sumTo_seg]
    exact sumTo_ext fun i _ => rfl
  have e3 : seg (fun b c => gX x b + gX b c + gX c x) r = (3 * x.1) * seg (fun b c => tt x b c) r + seg (fun b c => ((b.1 - x.1) + (c.1 - x.1)) * tt x b c) r :=
    seg_lin (fun b c => by rw [gX_fan]; grind) r
  rw [e3, e1, e2]
  grind
theorem momY_cyc (x : P) (r : List P) : 3 * areaC (x :: r) * x.2 + areaY (x :: r) = cyc gY (x :: r) := by
  rw [← fan_cyc gY_anti x r]
  have e1 : areaC (x :: r) = seg (fun b c => tt x b c) r := by
    rw [← sumTo_seg]
    exact sumTo_ext fun i _ => rfl
  have e2 : areaY (x :: r) = seg (fun b c => ((b.2 - x.2) + (c.2 - x.2)) * tt x b c) r := by
    rw [← sumTo_seg]
    exact sumTo_ext fun i _ => rfl
  have e3 : seg (fun b c => gY x b + gY b c + gY c x) r = (3 * x.2) * seg (fun b c => tt x b c) r + seg (fun b c => ((b.2 - x.2) + (c.2 - x.2)) * tt x b c) r :=
    seg_lin (fun b c => by rw [gY_fan]; grind) r
  rw [e3, e1, e2]
  grind
theorem MidQ.cyc {S : Nat} {l : List P} {a : List Int} (h : MidQ S l a) (hne : l ≠ []) : Q3 a (cyc gX l) (cyc gY l) (3 * cyc gA l * (S : Nat)) := by
  cases l with
  | nil => exact (hne rfl).elim
  | cons x r =>
    have := h.q
    have e0 : nthP (x :: r) 0 = x := rfl
    rw [e0, momX_cyc, momY_cyc, area_cyc] at this
    exact this
/-- a section goes round to the left, and has no corner twice -/
theorem Sec.tri {pts : List (List Int)} {S : Nat} (h : Sec pts S) : Tri (pts.map (fsc S)) ∧ (pts.map (fsc S)).Nodup := by
  have h0 := h.pol.scb.s0
  have hP : ∀ p ∈ pts, Pk S p := fun p hp => ⟨h.pol.scb.ok p hp, h.pol.scb.dvd p hp⟩
  have e1 : hullL S pts = pts := (hullL_indep h0 hP).trans h.pol.self
  have e2 : hl (pts.map (fsc S)) = pts.map (fsc S) := by
    rw [← hullL_map h0 hP, e1]
  exact ⟨e2 ▸ hl_is_tri _, e2 ▸ hl_nodup _⟩
/-- the area of a section is above 0 -/
theorem seg_pos {f : P → P → Int} : ∀ {r : List P}, (r.Pairwise fun b c => 0 < f b c) → 2 ≤ r.length → 0 < seg f r
  | [], _, h => by simp at h
  | [_], _, h => by simp at h
  | [a, b], h, _ => by
    show 0 < f a b + 0
    have := (List.pairwise_cons.mp h).1 b (by simp)
    omega
  | a :: b :: c :: r, h, _ => by
    show 0 < f a b + seg f (b :: c :: r)
    have h1 := (List.pairwise_cons.mp h).1 b (by simp)
    have h2 := seg_pos (List.pairwise_cons.mp h).2 (by simp)
    omega
theorem tri_area {x : P} {r : List P} (h : Tri (x :: r)) (h2 : 2 ≤ r.length) : 0 < cyc gA (x :: r) := by
  rw [← fan_cyc gA_anti x r]
  have e : (fun b c => gA x b + gA b c + gA c x) = fun b c => tt x b c := by funext b c; exact gA_fan x b c
  rw [e]
  exact seg_pos h.1 h2
end K05

namespace Ur
open PySem L2 PyProof.Rows
/-- [e for x, y in zip(l, m)], e a number -/
theorem lcZ_in {K : PySem.W.Frag} {a b : Addr} {xs ys : List V} {te : TE} {vs : List Nat} {i1 j1 n : Nat} {σ : L2.St} {H : Hp} {D : Addr} {Qd : Hp → Prop} (f : Nat → Int) (hn : n = min xs.length ys.length) (hD : H D = none) (hs : SqL K H a xs) (hs2 : SqL K H b ys) (hz : n ≤ 100000)
    (hw : ∀ x y, wipe (((wipe σ vs).set i1 (some x)).set j1 (some y)) vs = wipe σ vs)
    (he : ∀ (i : Nat) x y H3, xs[i]? = some x → ys[i]? = some y → Same H H3 → ∀ Q' : VK, (∀ H4, Same H3 H4 → Q' (.int (f i)) H4) → te (((wipe σ vs).set i1 (some x)).set j1 (some y)) H3 Q')
    (hq : ∀ zs H', Same H H' → H' D = some (.lst zs) → zs.length = n → (∀ (i : Nat) (y : V), zs[i]? = some y → y = .int (f i)) → Qd H') :
    ∃ W : Nat → Nat → Hp → Prop, (∃ m, W 0 m (upd H D (.lst []))) ∧ ∀ i m H, W i m H →
      ((Itz K a b).stop i H ∧ Qd H) ∨ ((Itz K a b).go i H ∧ ∃ Nx : Hp → Prop, (∀ H', Nx H' → ∃ m', m' < m ∧ W (i + 1) m' H') ∧ ∀ x H', (Itz K a b).yld i H x H' → gPair K i1 j1 x (wipe σ vs) H' fun σ2 H2 => wipe σ2 vs = wipe σ vs ∧ tYes σ2 H2 fun b H3 =>
        if b = true then te σ2 H3 fun y H4 => ∃ acc, H4 D = some (.lst acc) ∧
              acc.length < sizeLine ∧ Nx (upd H4 D (.lst (acc ++ [y]))) else Nx H3) := by
  have hm : Mono H fun _ i y => y = .int (f i) := fun _ _ _ _ _ _ _ _ _ h => h
  refine lc_it (walk_zip (K := K) (a := a) (b := b) (xs := xs) (ys := ys) hn) (MadeH H (fun _ i y => y = .int (f i)) D) (.start hD) (fun i H' _ m => ⟨m.same.seq hs, m.same.seq hs2⟩) (fun i v H3 H' hi m hY => ?_) (fun H' ⟨hn, sm, zs, h1, h2, h3⟩ => hq zs H' sm h1 h2 h3)
  obtain ⟨T, x, y', h1, h2, h3, h4, h5⟩ := hY
  subst h1 h3
  have s3 := same_new (p := T) (o := HO.tup [x, y']) h2
  refine pair_in upd_same ⟨hw _ _, ?_⟩
  unfold tYes
  dsimp only
  rw [if_pos rfl]
  exact (m.on hm s3).turn hm (by omega) fun Q' q' => he i x y' _ h4 h5 (m.same.trans s3) Q' fun H4 s4 => q' _ H4 rfl s4
end Ur
namespace K05
open PySem L2 Ur Hull
theorem cut_one (xs : List V) : cutV xs (some 1) none = xs.drop 1 := cut_tail xs
theorem cut_two (xs : List V) (h : 2 ≤ xs.length) : cutV xs (some 2) none = xs.drop 2 := by
  unfold cutV
  have e1 : HT.sIx xs.length 0 (some 2) = min 2 xs.length := HT.sIx_nat xs.length 0 2
  have e2 : HT.sIx xs.length xs.length none = xs.length := rfl
  rw [e1, e2, Nat.min_eq_left h, List.take_of_length_le]
  rw [List.length_drop]
  omega
theorem cut_two' (xs : List V) : cutV xs (some 2) none = xs.drop 2 := by
  unfold cutV
  have e1 : HT.sIx xs.length 0 (some 2) = min 2 xs.length := HT.sIx_nat xs.length 0 2
  have e2 : HT.sIx xs.length xs.length none = xs.length := rfl
  rw [e1, e2, List.take_of_length_le]
  · rcases Nat.le_total 2 xs.length with h | h
    · rw [Nat.min_eq_left h]
    · rw [Nat.min_eq_right h, List.drop_length, List.drop_of_length_le h]
  · rw [List.length_drop]
    omega
theorem list_ints {f : Nat → Int} {n : Nat} {zs : List V} (hl : zs.length = n) (h : ∀ (i : Nat) (y : V), zs[i]? = some y → y = .int (f i)) : zs = ((List.range n).map f).map V.int := by
  refine List.ext_getElem? fun i => ?_
  rw [List.getElem?_map,
        List.getElem?_map]
  by_cases hi : i < n
  · have e : zs[i]? = some zs[i] := List.getElem?_eq_getElem (by omega)
    rw [e, List.getElem?_range hi, h i _ e]
    rfl
  · rw [List.getElem?_eq_none (by omega), List.getElem?_eq_none (by rw [List.length_range]; omega)]
    rfl
theorem sum_to (f : Nat → Int) : ∀ n : Nat, ((List.range n).map f).sum = sumTo f n
  | 0 => rfl
  | n + 1 => by
    rw [List.range_succ, List.map_append, List.sum_append, sum_to f n]
    show _ + (f n + 0) = _
    rw [Int.add_zero]
    rfl
def spTwA (K : PySem.W.Frag) : Sp := fun vs H Q _ => ∃ (a : Addr) (xs : List V) (ps : List P), vs = [.ref a] ∧ SqL K H a xs ∧ Al (Sp2 H) xs ps ∧ (∀ p ∈ ps, Bq p) ∧ ps ≠ [] ∧ ps.length ≤ 1000 ∧ ∀ H', Same H H' → Q (.int (areaC ps)) H'
section
variable {P' : Program} {w : World} {K :
      PySem.W.Frag} {mg : Str → Option Value} {base : Heap}
abbrev n_twa : List Str := ["spots", "one", "two"]
end
end K05
namespace K05
open PySem L2 Ur Hull
theorem tt_lt {a b c : P} (ha : Bq a) (hb : Bq b) (hc : Bq c) : (tt a b c).natAbs < 2 ^ 4603 := by
  have m : ∀ {x y : Int}, x.natAbs < 2 ^ 2301 → y.natAbs < 2 ^ 2301 → (x * y).natAbs < 2 ^ 4602 := fun {x y} h k => by
    rw [Int.natAbs_mul]
    have := Nat.mul_lt_mul'' h k
    rw [← Nat.pow_add] at this
    exact this
  have h1 := m (sub101 hb.x ha.x) (sub101 hc.y ha.y)
  have h2 := m (sub101 hb.y ha.y) (sub101 hc.x ha.x)
  have e : (2 : Nat) ^ 4603 = 2 ^ 4602 + 2 ^ 4602 := by rw [show (4603 : Nat) = 4602 + 1 from rfl, Nat.pow_succ]; omega
  unfold tt
  rw [e]
  omega
def sixX (l : List P) (i : Nat) : Int := triA l i * ((nthP l 0).1 + (nthP l (i + 1)).1 + (nthP l (i + 2)).1)
def sixY (l : List P) (i : Nat) : Int := triA l i * ((nthP l 0).2 + (nthP l (i + 1)).2 + (nthP l (i + 2)).2)
theorem six_x (x : P) (r : List P) : sumTo (sixX (x :: r)) ((x :: r).length - 2) = cyc gX (x :: r) := by
  rw [← fan_cyc gX_anti x r, ← sumTo_seg]
  refine sumTo_ext fun i _ => ?_
  rw [gX_fan]
  show triA (x :: r) i * (x.1 + (nthP r i).1 + (nthP r (i + 1)).1) = _
  rw [Int.mul_comm]
  rfl
theorem six_y (x : P) (r : List P) : sumTo (sixY (x :: r)) ((x :: r).length - 2) = cyc gY (x :: r) := by
  rw [← fan_cyc gY_anti x r, ← sumTo_seg]
  refine sumTo_ext fun i _ => ?_
  rw [gY_fan]
  show triA (x :: r) i * (x.2 + (nthP r i).2 + (nthP r (i + 1)).2) = _
  rw [Int.mul_comm]
  rfl
def spSix (K : PySem.W.Frag) : Sp := fun vs H Q _ => ∃ (a : Addr) (xs : List V) (ps : List P), vs = [.ref a] ∧ SqL K H a xs ∧ Al (Sp2 H) xs ps ∧ (∀ p ∈ ps, Bq p) ∧ ps ≠ [] ∧ ps.length ≤ 1000 ∧ ∀ t H', Same H H' → SqT K H' t [.int (cyc gX ps), .int (cyc gY ps)] → Q (.ref t) H'
section
variable {P' : Program} {w : World} {K :
      PySem.W.Frag} {mg : Str → Option Value} {base : Heap}
abbrev n_six : List Str := ["spots", "first", "right", "up", "one", "two", "weight"]
end
end K05
namespace K05
open PySem L2 Ur Hull
theorem seg_map (f : P → P → Int) (h : P → P) : ∀ l : List P, seg f (l.map h) = seg (fun a b => f (h a) (h b)) l
  | [] => rfl
  | [_] => rfl
  | a :: b :: r => by
    show f (h a) (h b) + seg f ((b :: r).map h) = f (h a) (h b) + _
    rw [seg_map f h (b :: r)]
theorem cyc_map (f : P → P → Int) (h : P → P) (l : List P) : cyc f (l.map h) = cyc (fun a b => f (h a) (h b)) l := by
  cases l with
  | nil => rfl
  | cons x r =>
    show seg f (h x :: (r.map h ++ [h x])) = seg _ (x :: (r ++ [x]))
    have e := seg_map f h (x :: (r ++ [x]))
    rw [← e]
    simp
theorem seg_mul {f g : P → P → Int} {k : Int} (e : ∀ a b, f a b = k * g a b) : ∀ l : List P, seg f l = k * seg g l
  | [] => by show (0 : Int) = k * 0; omega
  | [_] => by show (0 : Int) = k * 0; omega
  | a :: b :: r => by
    show f a b + seg f (b :: r) = k * (g a b + seg g (b :: r))
    rw [e, seg_mul e (b :: r), Int.mul_add]
theorem cyc_mul {f g : P → P → Int} {k : Int} (e : ∀ a b, f a b = k * g a b) (l : List P) : cyc f l = k * cyc g l := by
  cases l with
  | nil => show (0 : Int) = k * 0; omega
  | cons x r => exact seg_mul e _
theorem gA_sc (k : Int) (l : List P) : cyc gA (l.map (sc k)) = (k * k) * cyc gA l := by
  rw [cyc_map]
  exact cyc_mul (fun a b => by unfold gA cr sc; grind) l
theorem gX_sc (k : Int) (l : List P) : cyc gX (l.map (sc k)) = (k * k * k) * cyc gX l := by
  rw [cyc_map]
  exact cyc_mul (fun a b => by unfold gX cr sc; grind) l
theorem gY_sc (k : Int) (l : List P) : cyc gY (l.map (sc k)) = (k * k * k) * cyc gY l := by
  rw [cyc_map]
  exact cyc_mul (fun a b => by unfold gY cr sc; grind) l
/-- the area, and the middle, on any scale -/
theorem area_scale {pts : List (List Int)} {L k : Nat} (hL : 0 < L) (hk : 0 < k) (e : pts.map (fsc (L * k)) = (pts.map (fsc L)).map (sc k)) {a : List Int} (h : Q2 a (cyc gA (pts.map (fsc L))) (2 * (L : Int) * L)) :
    Q2 a (cyc gA (pts.map (fsc (L * k)))) (2 * ((L * k : Nat) : Int) * ((L * k : Nat) : Int)) := by
  rw [e, gA_sc]
  have k0 : (0 : Int) < k := by omega
  exact h.up (k := (k : Int) * k) (Int.mul_pos k0 k0) rfl (by rw [Int.natCast_mul]; grind)
theorem mid_scale {pts : List (List Int)} {L k : Nat} (hL : 0 < L) (hk : 0 < k) (e : pts.map (fsc (L * k)) = (pts.map (fsc L)).map (sc k)) {a : List Int} (h : Q3 a (cyc gX (pts.map (fsc L))) (cyc gY (pts.map (fsc L))) (3 * cyc gA (pts.map (fsc L)) * L)) :
    Q3 a (cyc gX (pts.map (fsc (L * k)))) (cyc gY (pts.map (fsc (L * k)))) (3 * cyc gA (pts.map (fsc (L * k))) * ((L * k : Nat) : Int)) := by
  rw [e, gA_sc, gX_sc, gY_sc]
  have k0 : (0 : Int) < k := by omega
  exact h.up (k := (k : Int) * k * k) (Int.mul_pos (Int.mul_pos k0 k0) k0) rfl rfl (by rw [Int.natCast_mul]; grind)
/-- from the least scale to any other one -/
theorem to_scale {pts : List (List Int)} {S : Nat} (h : Scb pts S) : ∃ k : Nat, 0 < k ∧ S = scl pts * k ∧ pts.map (fsc (scl pts * k)) = (pts.map (fsc (scl pts))).map (sc k) := by
  obtain ⟨k, hk⟩ := scl_dvd h.dvd
  have hM := h.scl_pos
  have h0 := h.s0
  have k0 : 0 < k := by
    rcases Nat.eq_zero_or_pos k with z | z
    · rw [z, Nat.mul_zero] at hk; omega
    · exact z
  refine ⟨k, k0, hk, ?_⟩
  rw [List.map_map]
  exact List.map_congr_left fun p hp => fsc_sc hM (by rw [Int.natCast_mul]) ⟨h.ok p hp, scl_has hp⟩
abbrev p_polygon : List Str := ["polygon"]
abbrev n_pa : List Str := ["polygon", "spots", "scale"]
/-- the area of a polygon -/
def spPA (K : PySem.W.Frag) : Sp := fun vs H Q _ => ∃ (t : Addr) (xs : List V) (pts : List (List Int)) (S : Nat), vs = [.ref t] ∧ SqT K H t xs ∧ Al (Tp K H) xs pts ∧ Scb pts S ∧ pts ≠ [] ∧
  ∀ (p : V) (a : List Int) H', Same H H' → Tp K H' p a → Q2 a (cyc gA (pts.map (fsc S))) (2 * (S : Int) * S) → Q p H'
theorem areaC_cyc {l : List P} (h : l ≠ []) : areaC l = cyc gA l := by
  cases l with
  | nil => exact (h rfl).elim
  | cons x r => exact area_cyc x r
theorem areaC_lt {l : List P} (h : ∀ p ∈ l, Bq p) (hl : l.length ≤ 1000) : (areaC l).natAbs ≤ W2 := by
  have hb : ∀ i, Bq (nthP l i) := fun i => by
    show Bq (l.getD i (0, 0))
    rw [List.getD_eq_getElem?_getD (l := l)]
    cases e : l[i]? with
    | none => exact ⟨Nat.two_pow_pos _, Nat.two_pow_pos _⟩
    | some q => exact h q (List.mem_of_getElem? e)
  have h1 := sumTo_le (f := triA l) (b := 2 ^ 4603) (l.length - 2) fun i _ => by
    have e : triA l i = tt (nthP l 0) (nthP l (i + 1)) (nthP l (i + 2)) := rfl
    rw [e]
    exact Nat.le_of_lt (tt_lt (hb _) (hb _) (hb _))
  refine Nat.le_trans h1 (Nat.le_trans (Nat.mul_le_mul (by omega : l.length - 2 ≤ 2 ^ 10) (Nat.le_refl _)) ?_)
  rw [← Nat.pow_add]
  unfold W2
  exact Nat.pow_le_pow_right (by decide) (by decide)
section
variable {P' : Program} {w : World} {K :
      PySem.W.Frag} {mg : Str → Option Value} {base : Heap}
end
end K05
namespace K05
open PySem L2 Ur Hull
theorem Sml.scl {pts : List (List Int)} {S : Nat} (h : Sml pts S) (k : Scb pts S) : Sml pts (scl pts) := ⟨h.ok, Nat.lt_of_le_of_lt k.scl_le h.s1⟩
theorem six_le {l : List P} (h : ∀ q ∈ l, q.1.natAbs ≤ 2 ^ 100 ∧ q.2.natAbs ≤ 2 ^ 100) (i : Nat) : (sixX l i).natAbs ≤ 2 ^ 305 ∧ (sixY l i).natAbs ≤ 2 ^ 305 := by
  have a := nthP_le h (i + 1)
  have b := nthP_le h (i + 2)
  have c := nthP_le h 0
  have t := tri_le h i
  have d : ∀ {x y z : Int}, x.natAbs ≤ 2 ^ 100 → y.natAbs ≤ 2 ^ 100 → z.natAbs ≤ 2 ^ 100 → (x + y + z).natAbs ≤ 2 ^ 102 := fun hx hy hz => by omega
  exact ⟨mul_le2 t (d c.1 a.1 b.1), mul_le2 t (d c.2 a.2 b.2)⟩
theorem gXY_le {l : List P} (hne : l ≠ []) (h : ∀ q ∈ l, q.1.natAbs ≤ 2 ^ 100 ∧ q.2.natAbs ≤ 2 ^ 100) (h8 : l.length ≤ 8) : (cyc gX l).natAbs ≤ 2 ^ 309 ∧ (cyc gY l).natAbs ≤ 2 ^ 309 ∧ (cyc gA l).natAbs ≤ 2 ^ 207 := by
  cases l with
  | nil => exact (hne rfl).elim
  | cons x r =>
    have hx := sumTo_le (f := sixX (x :: r)) (b := 2 ^ 305) ((x :: r).length - 2) fun i _ => (six_le h i).1
    have hy := sumTo_le (f := sixY (x :: r)) (b := 2 ^ 305) ((x :: r).length - 2) fun i _ => (six_le h i).2
    have hc := sumTo_le (f := triA (x :: r)) (b := 2 ^ 203) ((x :: r).length - 2) fun i _ => tri_le h i
    rw [six_x] at hx
    rw [six_y] at hy
    have ec : sumTo (triA (x :: r)) ((x :: r).length - 2) = cyc gA (x :: r) := area_cyc x r
    rw [ec] at hc
    have n8 : (x :: r).length - 2 ≤ 2 ^ 4 := by omega
    have e1 : 2 ^ 4 * 2 ^ 305 = 2 ^ 309 := by rw [← Nat.pow_add]
    have e2 : 2 ^ 4 * 2 ^ 203 = 2 ^ 207 := by rw [← Nat.pow_add]
    exact ⟨Nat.le_trans hx (e1 ▸ Nat.mul_le_mul n8 (Nat.le_refl _)), Nat.le_trans hy (e1 ▸ Nat.mul_le_mul n8 (Nat.le_refl _)), Nat.le_trans hc (e2 ▸ Nat.mul_le_mul n8 (Nat.le_refl _))⟩
abbrev n_pm : List Str := ["polygon", "spots", "scale", "right", "up"]
/-- the middle of a section -/
def spPM (K : PySem.W.Frag) : Sp := fun vs H Q _ => ∃ (v : V) (xs : List V) (pts : List (List Int)) (S : Nat), vs = [v] ∧ SecV K H v xs pts S ∧ Sml pts S ∧
  ∀ (p : V) (a : List Int) H', Same H H' → Tp K H' p a → Q3 a (cyc gX (pts.map (fsc S))) (cyc gY (pts.map (fsc S))) (3 * cyc gA (pts.map (fsc S)) * S) → Q p H'
section
variable {P' : Program} {w : World} {K :
      PySem.W.Frag} {mg : Str → Option Value} {base : Heap}
end
end K05
namespace K05
open PySem L2 Ur Hull
abbrev p_section : List Str := ["section"]
def spChkG (K : PySem.W.Frag) : Sp := fun vs H Q _ => ∃ (t : Addr) (xs : List V) (pts : List (List Int)) (S : Nat), vs = [.ref t] ∧ SqT K H t xs ∧ Al (Tp K H) xs pts ∧ Pol pts S ∧ 0 < pts.length ∧ ∀ H', Same H H' → Q .non H'
/-- the area of a polygon, asked for -/
def spAO (K : PySem.W.Frag) : Sp := fun vs H Q _ => ∃ (t : Addr) (xs : List V) (pts : List (List Int)) (S : Nat), vs = [.ref t] ∧ SqT K H t xs ∧ Al (Tp K H) xs pts ∧ Pol pts S ∧ 0 < pts.length ∧
  ∀ (p : V) (a : List Int) H', Same H H' → Tp K H' p a → Q2 a (cyc gA (pts.map (fsc S))) (2 * (S : Int) * S) → Q p H'
/-- the law's own area of a section -/
def spLSize (K : PySem.W.Frag) : Sp := fun vs H Q _ => ∃ (v : V) (xs : List V) (pts : List (List Int)) (S : Nat), vs = [v] ∧ SecV K H v xs pts S ∧ Sml pts S ∧
  ∀ (p : V) (a : List Int) (t e : Int) H', Same H H' → Tp K H' p a → FrL (2 ^ 209) a t e → Q2 a (cyc gA (pts.map (fsc S))) (2 * (S : Int) * S) → Q p H'
section
variable {P' : Program} {w : World} {K :
      PySem.W.Frag} {mg : Str → Option Value} {base : Heap}
def mulF : List Int → List Int → List Int
  | [t, e], [u, d] => thin [t * u, e * d]
  | _, _ => []
def spFM (K : PySem.W.Frag) : Sp := fun vs H Q _ => ∃ (v v' : V) (a b : List Int) (t e u d : Int) (n m : Nat), vs = [v, v'] ∧ Tp K H v a ∧ Tp K H v' b ∧ FrL n a t e ∧ FrL m b u d ∧ n ≤ WB ∧ m ≤ WB ∧ ∀ p H', Same H H' → Tp K H' p (mulF a b) → Q p H'
end
end K05
namespace K05
open PySem L2 Ur Hull
section
variable {P' : Program} {w : World} {K :
      PySem.W.Frag} {mg : Str → Option Value} {base : Heap}
abbrev n_lsize : List Str := ["_law_spots", "_law_total", "_law_k"]
end
end K05
namespace Ur
open PySem L2 PyProof.Rows
section
variable {K : PySem.W.Frag} {a : Addr} {xs : List V} {te tl : TE} {ta : TA} {tt : TT} {vs : List Nat} {i1 j1 l1 : Nat} {σ : L2.St} {H : Hp} {Q : VK}
/-- [e for x, y, w in l], l a list -/
theorem lcT3L (pt : Nat → V × V × V) (Pe : Hp → Nat → V → Prop) (hm : Mono H Pe) (hx : ∀ R : VK, R (.ref a) H → tl σ H R) (hs : SqL K H a xs) (hp : ∀ (i : Nat) x, xs[i]? = some x → ∃ T, x = .ref T ∧ SqT K H T [(pt i).1, (pt i).2.1, (pt i).2.2]) (hz : xs.length ≤ 100000)
    (hw : ∀ x y z, wipe ((((wipe σ vs).set i1 (some x)).set j1 (some y)).set l1 (some z)) vs = wipe σ vs)
    (he : ∀ (i : Nat) x H3, xs[i]? = some x → Same H H3 → ∀ Q' : VK, (∀ y H4, Pe H4 i y → Same H3 H4 → Q' y H4) → te ((((wipe σ vs).set i1 (some (pt i).1)).set j1 (some (pt i).2.1)).set l1 (some (pt i).2.2)) H3 Q')
    (hq : ∀ D ys H', H D = none → Same H H' → H' D = some (.lst ys) → ys.length = xs.length → (∀ i y, ys[i]? = some y → Pe H' i y) → Q (.ref D) H') : tLc (iList K tl) (gTrip K i1 j1 l1) tYes te vs σ H Q := by
  refine hx _ ⟨a, rfl, ⟨xs, hs⟩, fun D hD => ?_⟩
  refine lc_list (xs := xs) (MadeH H Pe D) (.start hD) (fun i H' _ m => m.same.seq hs) (fun i x H' hi m => ?_) (fun H' ⟨hn, sm, ys, h1, h2, h3⟩ => hq D ys H' hn sm h1 h2 h3)
  obtain ⟨T, e, ht⟩ := hp i x hi
  rw [e]
  refine trip_in (same_sqT m.same ht) ⟨hw _ _ _, ?_⟩
  have hl := (List.getElem?_eq_some_iff.mp hi).1
  unfold tYes
  dsimp only
  rw [if_pos rfl]
  exact (m.turn hm (by omega) (he i x H' hi m.same))
end
end Ur
namespace K05
open PySem L2 Ur Hull
def spScaleL (K : PySem.W.Frag) : Sp := fun vs H Q _ => ∃ (t : Addr) (xs : List V) (pts : List (List Int)) (S : Nat), vs = [.ref t] ∧ SqL K H t xs ∧ Al (Tp K H) xs pts ∧ Scb pts S ∧
  ∀ (H' : Hp) (r l : Addr) (ys : List V), Same H H' → SqT K H' r [.ref l, .int (scl pts : Nat)] → H' l = some (.lst ys) → Al (Sp2 H') ys (pts.map (fsc (scl pts))) → Q (.ref r) H'
def spHullL (K : PySem.W.Frag) : Sp := fun vs H Q _ => ∃ (t : Addr) (xs : List V) (pts : List (List Int)) (S : Nat), vs = [.ref t] ∧ SqL K H t xs ∧ Al (Tp K H) xs pts ∧ Scb pts S ∧
  ∀ (H' : Hp) (r : Addr) (zs : List V), Same H H' → SqT K H' r zs → Al (Tp K H') zs (hullOf pts) → Q (.ref r) H'
section
variable {P' : Program} {w : World} {K :
      PySem.W.Frag} {mg : Str → Option Value} {base : Heap}
theorem ok_scaleL {f : Addr} {fd : FuncData} (F : Fun K "on_scale" "on_scale" sOnScale f fd) (mL : mg "lcm" = some (.builtin "math.lcm")) : FnOk P' w K mg base CX0 1 f fd p_points (spScaleL K) := by
  refine F.ok sc_on_scale (fun vs H Q E h => ?_) (fun cdv A outer s H vs Q E hr h => ?_)
  · obtain ⟨t, _, _, _, rfl, _⟩ := h
    rfl
  · obtain ⟨t, xs, pts, S, rfl, hS, hA, hB, q⟩ := h
    refine ⟨_, (pss_cons (ps_set (i := 1) sc_on_scale.nd rfl (Or.inr rfl) pe_int)
      (pss_cons (ps_for PassesOwn.never rfl (pi_list (pv 0)) (pg_name (i := 2) sc_on_scale.nd rfl (Or.inl rfl)) (pss_one (ps_set (i := 1) sc_on_scale.nd rfl (Or.inr rfl) (pe_callBfun cr_lcm (by rfl) mL (pa_cons (pv 1) (pa_cons (pe_ix (r := rIxT K) ix_tup (pv 2) pe_int (fun _ _ => rfl)) pa_nil))))))
      (pss_one (ps_ret (pe_tup (pa_cons (pe_lc (own := [("x", 3), ("y", 4), ("w", 5)]) (g := gTrip K 3 4 5) (tt := tYes) rfl sc_on_scale.nd (pi_list (pv 0)) (blkOk_by (N := n_on_scale) (sc := defScope sOnScale) (by decide +kernel)) (fun _ _ _ _ _ => pg_tup rfl (pgs_cons (pg_name (i := 3) sc_on_scale.nd rfl (Or.inl rfl)) (pgs_cons (pg_name (i := 4) sc_on_scale.nd rfl (Or.inl rfl)) (pgs_cons (pg_name (i := 5) sc_on_scale.nd rfl (Or.inl rfl)) pgs_nil)))) (fun _ _ _ _ _ => pts_nil) (fun _ _ _ _ _ => (pe_tup (pa_cons (pe_op op_mulW (pv 3) (pe_op op_fdivW (pv 1) (pv 5))) (pa_cons (pe_op op_mulW (pv 4) (pe_op op_fdivW (pv 1) (pv 5))) pa_nil))))) (pa_cons (pv 1) pa_nil))))))), ?_⟩
    refine ⟨_, rfl, t, rfl, ⟨_, hS⟩, for_list (K := K) (a := t) (xs := xs) (fun i σ H' => ∃ v : Option V, σ = [some (.ref t), some (.int (scl (pts.take i) : Nat)), v, none, none, none] ∧ H' = H) ⟨none, rfl, rfl⟩ (fun i σ H' _ ⟨_, _, e⟩ => e ▸ hS) ?_ ?_⟩
    · rintro i y σ H' hi ⟨v, rfl, rfl⟩
      obtain ⟨p, hp, ⟨tp, rfl, sp⟩⟩ := hA.get hi
      obtain ⟨x, y, w', A⟩ := hB.ok p (List.mem_of_getElem? hp)
      have e := A.eq
      subst e
      have hw : w3 [x, y, w'] = w'.natAbs := rfl
      have e3 : ((w'.natAbs : Nat) : Int) = w' := by have := A.pos; omega
      refine ⟨_, rfl, _, rfl, tp, _, 2, _, rfl, rfl, sp, rfl, scl (pts.take i), w'.natAbs, ?_, ?_, ?_, ?_⟩
      · rw [e3]
      · have h1 := hB.take i
        exact Nat.lt_of_le_of_lt h1 (Nat.lt_trans hB.s1 (sb_lt (by decide)))
      · exact Nat.lt_of_le_of_lt A.bw (cb_lt (by decide))
      · refine ⟨some (.ref tp), ?_, rfl⟩
        rw [scl_next hp, hw]
        rfl
    · rintro σ H' ⟨v, rfl, rfl⟩
      have ep : pts.take xs.length = pts := by rw [hA.len, List.take_length]
      rw [ep]
      unfold tRet tTup tCons tNil
      dsimp only
      refine lcT3L (K := K) (a := t) (xs := xs) (fun i => (.int ((pts.getD i []).getD 0 0), .int ((pts.getD i []).getD 1 0), .int ((pts.getD i []).getD 2 0))) (fun H' i y => Sp2 H' y (fsc (scl pts) (pts.getD i []))) (mono_sp _) (fun R r => ⟨_, rfl, r⟩) hS (fun i x hi => ?_) (by have := hB.few; rw [hA.len]; omega) (fun _ _ _ => rfl) (fun i x H3 hi sm Q' q' => ?_) (fun D ys H2 hD sm hy e1 e2 => ?_)
      · obtain ⟨p, hp, ⟨tp, rfl, sp⟩⟩ := hA.get hi
        obtain ⟨x, y, w', A⟩ := hB.ok p (List.mem_of_getElem? hp)
        have e := A.eq
        subst e
        have ep : pts.getD i [] = [x, y, w'] := by rw [List.getD_eq_getElem?_getD, hp]; rfl
        refine ⟨tp, rfl, ?_⟩
        rw [ep]
        exact sp
      · obtain ⟨p, hp, _⟩ := hA.get hi
        obtain ⟨x, y, w', A⟩ := hB.ok p (List.mem_of_getElem? hp)
        have e := A.eq
        subst e
        have ep : pts.getD i [] = [x, y, w'] := by rw [List.getD_eq_getElem?_getD, hp]; rfl
        rw [ep] at q' ⊢
        have hL := hB.scl_le
        have hS1 := hB.s1
        have w0 := A.pos
        have cd : CDivW (scl pts : Nat) w' := wide_div (b := 9000) w0 (Nat.lt_of_le_of_lt A.bw (cb_lt (by decide))) (by decide) (by decide)
        have d0 : 0 ≤ (scl pts : Int) / w' := Int.ediv_nonneg (by omega) (by omega)
        have d1 : (scl pts : Int) / w' ≤ scl pts := Int.ediv_le_self _ (by omega)
        have bd : ((scl pts : Int) / w').natAbs < 2 ^ 2301 := Nat.lt_trans (by omega : _ < SB) (sb_lt (by decide))
        have b1 : ∀ {z : Int}, z.natAbs ≤ CB → z.natAbs < 2 ^ 2301 := fun h => Nat.lt_of_le_of_lt h (cb_lt (by decide))
        refine ⟨_, rfl, _, rfl, _, rfl, _, _, rfl, rfl, cd, _, _, rfl, rfl, mq (b1 A.bx) bd, _, rfl, _, rfl, _, rfl, _, _, rfl, rfl, cd, _, _, rfl, rfl, mq (b1 A.bby) bd, by show 2 ≤ sizeLine; decide, fun p hp => q' _ _ ⟨p, rfl, upd_same⟩ (same_new hp)⟩
      · refine ⟨_, rfl, by show 2 ≤ sizeLine; decide, fun r hr => q _ r D ys (sm.trans (same_new hr)) (SqT.of upd_same) (same_new hr _ _ hy) ⟨by rw [e1, hA.len, List.length_map], fun i y p hi hp => ?_⟩⟩
        have h1 := e2 i y hi
        have e : p = fsc (scl pts) (pts.getD i []) := by
          rw [List.getElem?_map] at hp
          rw [List.getD_eq_getElem?_getD (l := pts)]
          cases h : pts[i]? with
          | none => rw [h] at hp; cases hp
          | some z => rw [h] at hp; exact (Option.some.inj hp).symm
        rw [e]
        exact h1.same (same_new hr)
set_option
      maxHeartbeats 1000000 in
theorem ok_hullL {f : Addr} {fd : FuncData} (F : Fun K "hull_of" "hull_of" sHull f fd) (T : Bl mg) (H_on_scale : Has P' w K mg base "on_scale" p_points 1 (spScaleL K)) (H_left_bends : Has P' w K mg base "_left_bends" p_spots 2 (spLB K)) (H_place : Has P' w K mg base "place" p_place 1 (spN3 K)) : FnOk P' w K mg base CX0 3 f fd p_points (spHullL K) := by
  refine F.ok sc_hull (fun vs H Q E h => ?_) (fun cdv A outer s H vs Q E hr h => ?_)
  · obtain ⟨t, _, _, _, rfl, _⟩ := h
    rfl
  · obtain ⟨t, xs, pts, S, rfl, hS, hA, hB, q⟩ := h
    have hu := hr.units
    refine ⟨_, (pss_cons (ps_asg (pe_has H_on_scale (hr.mono (by decide)) (by rfl) (pa_cons (pv 0) pa_nil)) (pg_tup rfl (pgs_cons (pg_name (i := 1) sc_hull.nd rfl (Or.inr rfl)) (pgs_cons (pg_name (i := 2) sc_hull.nd rfl (Or.inr rfl)) pgs_nil))))
      (pss_cons (ps_set (i := 1) sc_hull.nd rfl (Or.inr rfl) (pe_callB cr_sortedPO (by rfl) T.sorted PyProof.Rows.boot_sorted (pa_cons (pv 1) pa_nil)))
      (pss_mid (ps_setLc (i := 3) (own := [("k", 4), ("spot", 5)]) (g := gPair K 4 5) rfl sc_hull.nd rfl rfl (sw_true rfl rfl rfl (by decide +kernel)) (pi_enum (by rfl) T.enumerate (pa_cons (pv 1) pa_nil)) (blkOk_by (N := n_hull) (sc := defScope sHull) (by decide +kernel)) (fun _ _ _ _ _ => pg_tup rfl (pgs_cons (pg_name (i := 4) sc_hull.nd rfl (Or.inl rfl)) (pgs_cons (pg_name (i := 5) sc_hull.nd rfl (Or.inl rfl)) pgs_nil))) (fun _ _ _ _ _ => pts_one (PW.pt (pw_or (pt_cmpR op_eq (pv 4) pe_int (nomark _)) (pw_or1 (pt_cmpR (neD_K (K := K) rfl hu) (pv 5) (pe_ix (r := rIxL K) ix_list (pv 1) (pe_op op_sub (pv 4) pe_int) (fun _ _ => rfl)) (nomark _)))))) (fun _ _ _ _ _ => (pv 5)))
      (pss_mid (ps_if (pt_cmpR op_gt (pe_callB (r := Ur.rLen K) Ur.len_seq (by rfl) T.len PySem.boot_len (pa_cons (pv 3) pa_nil)) pe_int (nomark _)) (pss_one (ps_set (i := 3) sc_hull.nd rfl (Or.inl rfl) (pe_op op_cat (pe_slice sl_list (pe_has H_left_bends (hr.mono (by decide)) (by rfl) (pa_cons (pv 3) pa_nil)) po_none (po_some (pe_un un_neg pe_int))) (pe_slice sl_list (pe_has H_left_bends (hr.mono (by decide)) (by rfl) (pa_cons (pe_revL (pv 3)) pa_nil)) po_none (po_some (pe_un un_neg pe_int)))))) pss_nil)
      (pss_one (ps_ret (pe_callTy call_tuple_of (by rfl) T.tuple PyProof.Rows.boot_tuple (pa_cons (pe_lc (own := [("x", 6), ("y", 7)]) (g := gPair K 6 7) (tt := tYes) rfl sc_hull.nd (pi_list (pv 3)) (blkOk_by (N := n_hull) (sc := defScope sHull) (by decide +kernel)) (fun _ _ _ _ _ => pg_tup rfl (pgs_cons (pg_name (i := 6) sc_hull.nd rfl (Or.inl rfl)) (pgs_cons (pg_name (i := 7) sc_hull.nd rfl (Or.inl rfl)) pgs_nil))) (fun _ _ _ _ _ => pts_nil) (fun _ _ _ _ _ => (pe_has H_place (hr.mono (by decide)) (by rfl) (pa_cons (pv 6) (pa_cons (pv 7) (pa_cons (pv 2) pa_nil)))))) pa_nil)))))))), ?_⟩
    refine ⟨_, rfl, t, xs, pts, S, rfl, hS, hA, hB, fun H1 r l ys s1 hr1 hl1 hA1 => ?_⟩
    refine ⟨r, _, rfl, hr1, rfl, _, _, rfl, _, _, rfl, rfl, ?_⟩
    have hk1 : ∀ y ∈ ys, Kd2 H1 (kOf H1) y ∧ Bq (kOf H1 y) := fun y hy => by
      obtain ⟨p, hp, hsp⟩ := hA1.mem hy
      have e := kOf_of hsp
      refine ⟨?_, ?_⟩
      · unfold Kd2; rw [e]; exact hsp
      · rw [e]
        obtain ⟨p', hp', rfl⟩ := List.mem_map.mp hp
        exact fsc_bq hB hp'
    have hm1 : ys.map (kOf H1) = pts.map (fsc (scl pts)) := hA1.map fun y p h => kOf_of h
    refine ⟨_, rfl, l, ys, kOf H1, rfl, SqL.of hl1, fun x hx => (hk1 x hx).1, fun zs p hsrt hstb hp => ?_⟩
    have s2 := s1.trans (same_new (p := p) (o := HO.lst zs) hp)
    have hk2 : ∀ z ∈ zs, Kd2 (upd H1 p (.lst zs)) (kOf H1) z ∧ Bq (kOf H1 z) := fun z hz => by
      have := hk1 z (hstb.perm.mem_iff.mp hz)
      exact ⟨this.1.same (same_new hp), this.2⟩
    have hlen : zs.length ≤ 1000 := by
      rw [hstb.len, hA1.len, List.length_map]
      exact hB.few
    have hz2 : (upd H1 p (.lst zs)) p = some (.lst zs) := upd_same
    have hasc : (accF (fOnce (kOf H1) zs) zs zs.length).map (kOf H1) = ascOf (pts.map (fsc (scl pts))) := by
      rw [acc_once _ _ _ (Nat.le_refl _), List.take_length, once_is (sorted_lt hsrt)]
      refine ascOf_eq (ascOf_asc _) fun q => ?_
      rw [ascOf_mem, ← hm1]
      exact (hstb.perm.map _).mem_iff.symm
    generalize upd H1 p (.lst zs) = H2 at s2 hk2 hz2
    generalize kOf H1 = k at hk2 hasc
    obtain ⟨U, hU⟩ : ∃ U, U = accF (fOnce k zs) zs zs.length := ⟨_, rfl⟩
    rw [← hU] at hasc
    have hUm : ∀ z ∈ U, Kd2 H2 k z ∧ Bq (k z) := fun z hz => by
      have : ∀ (i : Nat), ∀ z ∈ accF (fOnce k zs) zs i, z ∈ zs := by
        intro i
        induction i with
        | zero => intro z hz; cases hz
        | succ i ih =>
          intro z hz
          have e : accF (fOnce k zs) zs (i + 1) = if fOnce k zs i then accF (fOnce k zs) zs i ++ (zs[i]?).toList else accF (fOnce k zs) zs i := rfl
          rw [e] at hz
          split at hz
          · rcases List.mem_append.mp hz with q | q
            · exact ih z q
            · rw [Option.mem_toList] at q
              exact List.mem_of_getElem? q
          · exact ih z hz
      exact hk2 z (this _ z (hU ▸ hz))
    have hUl : U.length ≤ 1000 := by
      have := accF_len (fOnce k zs) zs zs.length
      rw [← hU] at this
      omega
    refine ⟨fun σ' H' => ∃ D, σ' = [some (.ref t), some (.ref p), some (.int (scl pts : Nat)), some (.ref D), none, none, none, none] ∧ Same H2 H' ∧ H' D = some (.lst U), ?_, ?_⟩
    · refine lcEf (K := K) (a := p) (xs := zs) (fOnce k zs) (fun R r => ⟨_, rfl, r⟩) (SqL.of hz2) (by omega) (fun _ _ => rfl) (fun i x H3 hi sm Q' q' => ?_) (fun i x H3 Q' q' => ⟨_, rfl, q'⟩) (fun D H' hD sm hy => ⟨D, rfl, sm, hU ▸ hy⟩)
      have gx : zs.getD i .non = x := by rw [List.getD_eq_getElem?_getD, hi]; rfl
      refine ⟨_, rfl,
            rfl, _, rfl, ?_⟩
      have hq := q'
      refine ite2 (fun c
            => ?_) (fun c => ?_)
      · have e : i = 0 := by have := V.int.inj (of_decide_eq_true c); omega
        have e2 : fOnce k zs i = true := by unfold fOnce; rw [decide_eq_true e]; rfl
        have := q' H3 (Same.refl _)
        rw [e2] at this
        exact this
      · have hi0 : i ≠ 0 := fun e => c (decide_eq_true (by rw [e]; rfl))
        obtain ⟨j, rfl⟩ : ∃ j, i = j + 1 := ⟨i - 1, by omega⟩
        have hjl : j + 1 < zs.length := (List.getElem?_eq_some_iff.mp hi).1
        have hj : zs[j]? = some zs[j] := List.getElem?_eq_getElem (by omega)
        have gj : zs.getD (j + 1 - 1) .non = zs[j] := by rw [Nat.add_sub_cancel, List.getD_eq_getElem?_getD, hj]; rfl
        have ej : ((j + 1 : Nat) : Int) - 1 = ((j : Nat) : Int) := by omega
        have d1 := dp_pair (K := K) ((hk2 x (List.mem_of_getElem? hi)).1.same sm)
        have d2 := dp_pair (K := K) ((hk2 zs[j] (List.mem_of_getElem? hj)).1.same sm)
        refine ⟨_, rfl, _, rfl, _, rfl, _, _, rfl, rfl, p, _, _, zs[j], rfl, rfl, sm.seq (SqL.of hz2), by rw [ej]; exact atI_nat hj, _, _, d1, d2, shaped_ints _, shaped_ints _, _, rfl, ?_⟩
        have e2 : fOnce k zs (j + 1) = !PyData.eqv (tupD [(k x).1, (k x).2]) (tupD [(k zs[j]).1, (k zs[j]).2]) := by
          unfold fOnce tupD
          rw [gx, gj, eqv_ints]
          simp only [Nat.add_one_ne_zero, decide_false, Bool.false_or]
          congr 1
          refine decide_eq_decide.mpr ⟨fun h => by rw [h], fun h => ?_⟩
          simp only [List.cons.injEq, and_true] at h
          exact Prod.ext h.1 h.2
        have := q' H3 (Same.refl _)
        rw [e2] at this
        exact this
    · rintro σ' H' ⟨D, rfl, s3, hD⟩
      refine ⟨fun σ' H' => ∃ D, σ' = [some (.ref t), some (.ref p), some (.int (scl pts : Nat)), some (.ref D), none, none, none, none] ∧ Same H2 H' ∧ H' D = some (.lst (hull (tk k) U)), ?_, ?_⟩
      · refine ⟨_, rfl, D, _, rfl, Or.inl (SqL.of hD), _, _, rfl, rfl, _, rfl, ?_⟩
        refine ite2 (fun c
              => ?_) (fun c => ?_)
        · have h2 : ¬ U.length < 2 := by have := of_decide_eq_true c; omega
          have eh : hull (tk k) U = (bends (tk k) U).dropLast ++ (bends (tk k) U.reverse).dropLast := by unfold hull; rw [if_neg h2]
          have bl : ∀ l : List V, (bends (tk k) l).length ≤ l.length := fun l => by
            unfold bends
            rw [List.length_reverse]
            have : (Hull.stack (tk k) l).length ≤ 0 + l.length := stack_len (t := tk k) l []
            omega
          refine ⟨_, rfl, D, U, k, rfl, SqL.of hD, hUl, fun x hx => ⟨(hUm x hx).1.same s3, (hUm x hx).2⟩, fun l1 H4 hl1 s4 h4 => ⟨1, rfl, -1, rfl, l1, _, rfl, SqL.of h4, fun p1 hp1 => ?_⟩⟩
          rw [cut_last]
          have s5 := s4.trans (same_new (p := p1) (o := HO.lst (bends (tk k) U).dropLast) hp1)
          have hp1' : (upd H4 p1 (.lst (bends (tk k) U).dropLast)) p1 = some (.lst (bends (tk k) U).dropLast) := upd_same
          generalize upd H4 p1 (.lst (bends (tk k) U).dropLast) = H5 at s5 hp1'
          refine ⟨_, rfl, D, U, rfl, SqL.of (s5 _ _ hD), fun p2 hp2 => ⟨p2, U.reverse, k, rfl, SqL.of upd_same, by rw [List.length_reverse]; exact hUl, fun x hx => ⟨(hUm x (List.mem_reverse.mp hx)).1.same ((s3.trans s5).trans (same_new hp2)), (hUm x (List.mem_reverse.mp hx)).2⟩, fun l3 H6 hl3 s6 h6 => ⟨1, rfl, -1, rfl, l3, _, rfl, SqL.of h6, fun p4 hp4 => ?_⟩⟩⟩
          rw [cut_last]
          have s7 := ((same_new (p := p2) (o := HO.lst U.reverse) hp2).trans s6).trans (same_new (p := p4) (o := HO.lst (bends (tk k) U.reverse).dropLast) hp4)
          have l1' := bl U
          have l2' := bl U.reverse
          rw [List.length_reverse] at l2'
          refine ⟨_, _, _, _, rfl, rfl, s7 _ _ hp1', upd_same, ?_, fun p5 hp5 => ⟨p5, rfl, (s3.trans s5).trans (s7.trans (same_new hp5)), by rw [upd_same, eh]⟩⟩
          rw [List.length_dropLast, List.length_dropLast]
          exact Nat.le_trans (by omega : _ ≤ 2000) (by decide)
        · have h2 : U.length < 2 := by
            refine Nat.lt_of_not_le fun z => c (decide_eq_true (by omega))
          exact ⟨D, rfl, s3, by rw [hD]; unfold hull; rw [if_pos h2]⟩
      · rintro σ' H' ⟨D, rfl, s3, hD⟩
        have eh : (hull (tk k) U).map k = hl (pts.map (fsc (scl pts))) := by
          rw [← hull_map (t := tk k) (u := gone) (g := k) (fun _ _ _ => rfl), hasc]
          rfl
        have hhm : ∀ z ∈ hull (tk k) U, Kd2 H2 k z ∧ Bq (k z) := fun z hz => hUm z (hull_mem' hz)
        have hhl : (hull (tk k) U).length ≤ 2000 := Nat.le_trans (hull_len' _ _) (by omega)
        obtain ⟨W, hW⟩ : ∃ W, W = hull (tk k) U := ⟨_, rfl⟩
        rw [← hW] at hD eh hhm hhl
        have L0 := hB.scl_pos
        have L1 := hB.scl_le
        have L2 := hB.s1
        unfold tRet tCB tCons tNil
        dsimp only
        refine lcL2 (K := K) (a := D) (xs := W) (fun i => (.int (k (W.getD i .non)).1, .int (k (W.getD i .non)).2)) (fun H' i y => Tp K H' y (thin [(k (W.getD i .non)).1, (k (W.getD i .non)).2, (scl pts : Nat)])) (mono_tp _) (fun R r => ⟨_, rfl, r⟩) (SqL.of hD) (fun i x hi => ?_) (by omega) (fun _ _ => rfl) (fun i x H3 hi sm Q' q' => ?_) (fun D2 ys2 H5 hD2 sm hy e1 e2 => ?_)
        · have gx : W.getD i .non = x := by rw [List.getD_eq_getElem?_getD, hi]; rfl
          rw [gx]
          obtain ⟨t', e, h⟩ := (hhm x (List.mem_of_getElem? hi)).1
          exact ⟨t', e, SqT.of (s3 _ _ h)⟩
        · have gx : W.getD i .non = x := by rw [List.getD_eq_getElem?_getD, hi]; rfl
          have hb := (hhm x (List.mem_of_getElem? hi)).2
          rw [gx] at q' ⊢
          exact ⟨_, rfl, _, rfl, _, rfl, _, _, _, rfl, by omega, w2_100 hb.x, w2_100 hb.y, w2_100 (Nat.lt_trans (by omega : _ < SB) (sb_lt (by decide))), fun p H' s' tp => q' p H' tp s'⟩
        · refine ⟨D2, ys2, rfl, Or.inl ⟨SqL.of hy, fun l3 hl3 => q _ l3 ys2 (((s2.trans s3).trans sm).trans (same_new hl3)) (SqT.of upd_same) ⟨?_, fun i y p hi hp => ?_⟩⟩⟩
          · unfold hullOf
            rw [e1, List.length_map, ← eh, List.length_map]
          · have h1 := e2 i y hi
            have hi2 : i < W.length := by
              rw [← e1]
              exact (List.getElem?_eq_some_iff.mp hi).1
            have gx : W.getD i .non = W[i] := by rw [List.getD_eq_getElem?_getD, List.getElem?_eq_getElem hi2]; rfl
            have e : p = thin [(k (W.getD i .non)).1, (k (W.getD i .non)).2, (scl pts : Nat)] := by
              unfold hullOf at hp
              rw [← eh, List.map_map, List.getElem?_map, List.getElem?_eq_getElem hi2] at hp
              rw [gx]
              exact (Option.some.inj hp).symm
            rw [e]
            exact h1.same (same_new hl3)
end
end K05
namespace K05
open PySem L2 Ur Hull
def lineL (x y w u v z : Int) : List Int := [v * w - y * z, x * z - u * w, x * v - u * y]
def spLine (K : PySem.W.Frag) : Sp := fun vs H Q _ => ∃ (v v' : V) (x y w x' y' w' : Int) (n m : Nat), vs = [v, v'] ∧ Tp K H v [x, y, w] ∧ Tp K H v' [x', y', w'] ∧ PtL n [x, y, w] x y w ∧ PtL m [x', y', w'] x' y' w' ∧ n ≤ WB ∧ m ≤ WB ∧ ∀ p H', Same H H' → Tp K H' p (lineL x y w x' y' w') → Q p H'
section
variable {P' : Program} {w : World} {K :
      PySem.W.Frag} {mg : Str → Option Value} {base : Heap}
abbrev n_psum : List Str := ["point", "other", "x", "y", "w", "u", "v", "z"]
abbrev n_ptimes : List Str := ["point", "fraction", "x", "y", "w", "n", "m"]
abbrev p_pf : List Str := ["point", "fraction"]
abbrev p_p : List Str := ["point"]
end
end K05
namespace K05
open PySem L2 Ur Hull
/-! ### rows told over one number -/
theorem Q3.fsc {q : List Int} {X Y : Int} {S : Nat} (h : Q3 q X Y (S : Nat)) : fsc S q = (X, Y) ∧ w3 q ∣ S := by
  obtain ⟨g, x, y, r, g0, e1, e2, e3, rfl, r0⟩ := h.red
  have e : (S : Int) / r = g := by rw [e3, Int.mul_comm]; exact Int.mul_ediv_cancel_left _ (by omega)
  refine ⟨?_, ?_⟩
  · show (x * ((S : Int) / r), y * ((S : Int) / r)) = (X, Y)
    rw [e, e1, e2, Int.mul_comm x, Int.mul_comm y]
  · show r.natAbs ∣ S
    have : S = g.natAbs * r.natAbs := by
      rw [← Int.natAbs_mul, ← e3]
      exact (Int.natAbs_natCast S).symm
    rw [this]
    exact Nat.dvd_mul_left _ _
/-- a row of points led along: what each is over S' -/
structure Led (qs : List (List Int)) (l : List P) (S' : Nat) : Prop where
  len : qs.length = l.length
  at_ : ∀ (i : Nat) q p, qs[i]? = some q → l[i]? = some p → Q3 q p.1 p.2 (S' : Nat)
  ok : ∀ q ∈ qs, Pt3 CB q
theorem Led.map {qs : List (List Int)} {l : List P} {S' : Nat} (h : Led qs l S') : qs.map (fsc S') = l := by
  refine List.ext_getElem? fun i => ?_
  rw [List.getElem?_map]
  cases e : qs[i]? with
  | none =>
    have : qs.length ≤ i := List.getElem?_eq_none_iff.mp e
    rw [List.getElem?_eq_none (by rw [← h.len]; exact this)]
    rfl
  | some q =>
    have hi := (List.getElem?_eq_some_iff.mp e).1
    have e2 : l[i]? = some (l[i]'(by rw [← h.len]; exact hi)) := List.getElem?_eq_getElem _
    rw [e2]
    show some (fsc S' q) = _
    rw [(h.at_ i q _ e e2).fsc.1]
theorem Led.pk {qs : List (List Int)} {l : List P} {S' : Nat} (h : Led qs l S') {q : List Int} (hq : q ∈ qs) : Pk S' q := by
  obtain ⟨i, hi, rfl⟩ := List.getElem_of_mem hq
  have e2 : l[i]? = some (l[i]'(by rw [← h.len]; exact hi)) := List.getElem?_eq_getElem _
  exact ⟨h.ok _ (List.getElem_mem hi), (h.at_ i _ _ (List.getElem?_eq_getElem hi) e2).fsc.2⟩
/-- the hull of a led row -/
theorem Led.hull {qs : List (List Int)} {l : List P} {S' : Nat} (h : Led qs l S') (h0 : 0 < S') : hullOf qs = hullL S' qs := (hullL_indep h0 fun q hq => h.pk hq).symm
/-- a row whose points, in some order, go round to the left: its hull has all of them, and is that order begun elsewhere -/
theorem Led.turn {qs : List (List Int)} {l m : List P} {S' : Nat} (h : Led qs l S') (h0 : 0 < S') (hs : ∀ q, q ∈ l ↔ q ∈ m) (hT : Tri m) (hn : m.Nodup) (h3 : 3 ≤ m.length) : ∃ A B, m = A ++ B ∧ (hullL S' qs).map (fsc S') = B ++ A ∧ (hullL S' qs).length = m.length := by
  obtain ⟨A, B, e1, e2⟩ := hl_rot hT hn (by omega)
  have e3 : (hullL S' qs).map (fsc S') = B ++ A := by
    rw [hullL_map h0 (fun q hq => h.pk hq), h.map, hl_same hs, e2]
  refine ⟨A, B, e1, e3, ?_⟩
  have := congrArg List.length e3
  rw [List.length_map, List.length_append] at this
  rw [this, e1, List.length_append, Nat.add_comm]
/-- the led section -/
theorem Led.sec {qs : List (List Int)} {l m : List P} {S' : Nat} (h : Led qs l S') (h0 : 0 < S') (h1 : S' < SB) (hs : ∀ q, q ∈ l ↔ q ∈ m) (hT : Tri m) (hn : m.Nodup) (h3 : 3 ≤ m.length) (h8 : m.length ≤ 8) (hl : l.length ≤ 8) : Sec (hullL S' qs) S' := by
  obtain ⟨A, B, e1, e2, e3⟩ := h.turn h0 hs hT hn h3
  exact ⟨hull_pol h0 h1 (by rw [h.len]; omega) fun q hq => h.pk hq, by omega, by omega⟩
theorem Led.cyc {qs : List (List Int)} {l m : List P} {S' : Nat} (h : Led qs l S') (h0 : 0 < S') (hs : ∀ q, q ∈ l ↔ q ∈ m) (hT : Tri m) (hn : m.Nodup) (h3 : 3 ≤ m.length) (f : P → P → Int) : cyc f ((hullL S' qs).map (fsc S')) = cyc f m := by
  obtain ⟨A, B, e1, e2, e3⟩ := h.turn h0 hs hT hn h3
  rw [e2, e1, cyc_rot]
/-! ### maps of the plane -/
theorem tri_by {f : P → P} (hf : ∀ a b c, 0 < tt a b c → 0 < tt (f a) (f b) (f c)) : ∀ {l : List P}, Tri l → Tri (l.map f)
  | [], _ => trivial
  | a :: r, h => ⟨List.pairwise_map.mpr (h.1.imp fun {b c} k => hf a b c k), tri_by hf h.2⟩
theorem tri_back {f : P → P} (hf : ∀ a b c, tt (f a) (f b) (f c) = - tt a b c) : ∀ {l : List P}, Tri l → Tri (l.map f).reverse
  | [], _ => trivial
  | a :: r, h => by
    rw [List.map_cons, List.reverse_cons]
    refine tri_snoc (tri_back hf h.2) (List.pairwise_reverse.mpr (List.pairwise_map.mpr (h.1.imp fun {b c} k => ?_)))
    rw [hf]
    have : tt c b a = - tt a b c := by unfold tt; grind
    omega
def mov (k : Int) (v : P) (p : P) : P := (k * p.1 + v.1, k * p.2 + v.2)
def mir (p : P) : P := (-p.1, p.2)
theorem tt_mov (k : Int) (v a b c : P) : tt (mov k v a) (mov k v b) (mov k v c) = (k * k) * tt a b c := by unfold tt mov; grind
theorem tt_mir (a b c : P) : tt (mir a) (mir b) (mir c) = - tt a b c := by unfold tt mir; grind
theorem tri_mov {k : Int} (hk : 0 < k) (v : P) {l : List P} (h : Tri l) : Tri (l.map (mov k v)) := tri_by (fun a b c t => by rw [tt_mov]; exact Int.mul_pos (Int.mul_pos hk hk) t) h
theorem nodup_map {f : P → P} (hf : ∀ a b, f a = f b → a = b) {l : List P} (h : l.Nodup) : (l.map f).Nodup := List.pairwise_map.mpr (List.Pairwise.imp (R := fun a b => a ≠ b) (fun {a b} k e => k (hf a b e)) h)
theorem mov_inj {k : Int} (hk : 0 < k) (v a b : P) (e : mov k v a = mov k v b) : a = b := by
  have e1 : k * a.1 + v.1 = k * b.1 + v.1 := congrArg Prod.fst e
  have e2 : k * a.2 + v.2 = k * b.2 + v.2 := congrArg Prod.snd e
  exact Prod.ext (Int.eq_of_mul_eq_mul_left (by omega) (by omega : k * a.1 = k * b.1)) (Int.eq_of_mul_eq_mul_left (by omega) (by omega : k * a.2 = k * b.2))
theorem mir_inj (a b : P) (e : mir a = mir b) : a = b := by
  have e1 : -a.1 = -b.1 := congrArg Prod.fst e
  have e2 : (mir a).2 = (mir b).2 := congrArg Prod.snd e
  exact Prod.ext (by omega) e2
theorem rot_inj (a b : P) (e : rot a = rot b) : a = b := by
  have e1 : -a.2 = -b.2 := congrArg Prod.fst e
  have e2 : (rot a).2 = (rot b).2 := congrArg Prod.snd e
  exact Prod.ext e2 (by omega)
end K05
namespace K05
open PySem L2 Ur Hull
theorem Led.scb {qs : List (List Int)} {l : List P} {S' : Nat} (h : Led qs l S') (h0 : 0 < S') (h1 : S' < SB) (hl : l.length ≤ 1000) : Scb qs S' :=
  ⟨by rw [h.len]; exact hl, fun q hq => h.ok q hq, fun q hq => (h.pk hq).dv, h0, h1⟩
/-- each corner led by f -/
theorem led_of {pts : List (List Int)} {S S' : Nat} (hS : 0 < S) (hP : ∀ p ∈ pts, Pk S p) (f : List Int → List Int) (g : P → P) (h : ∀ p ∈ pts, Q3 (f p) (g (fsc S p)).1 (g (fsc S p)).2 (S' : Nat)) (hb : ∀ p ∈ pts, Pt3 CB (f p)) : Led (pts.map f) ((pts.map (fsc S)).map g) S' := by
  refine ⟨by simp, fun i q p hq hp => ?_, fun q hq => ?_⟩
  · rw [List.getElem?_map] at hq hp
    rw [List.getElem?_map] at hp
    cases e : pts[i]? with
    | none => rw [e] at hq; cases hq
    | some z =>
      rw [e] at hq hp
      rw [← Option.some.inj hq, ← Option.some.inj hp]
      exact h z (List.mem_of_getElem? e)
  · obtain ⟨p, hp, rfl⟩ := List.mem_map.mp hq
    exact hb p hp
theorem led_sum {pts : List (List Int)} {S : Nat} {a : List Int} {x y w : Int} (h0 : 0 < S) (hM : Sml pts S) (hP : ∀ p ∈ pts, Pk S p) (A : PtL (2 ^ 10) a x y w) :
    Led (pts.map fun p => sumL p a) ((pts.map (fsc S)).map (mov w (x * S, y * S))) (S * w.toNat) := by
  have w0 := A.pos
  have ew : ((S * w.toNat : Nat) : Int) = S * w := by rw [Int.natCast_mul, Int.toNat_of_nonneg (by omega)]
  refine led_of h0 hP _ _ (fun p hp => ?_) fun p hp => ?_
  · have z := (Q3.of_pk h0 (hP p hp)).sum (Q3.of_pt A)
    rw [ew]
    show Q3 _ (w * (fsc S p).1 + x * S) (w * (fsc S p).2 + y * S) _
    rw [Int.mul_comm w, Int.mul_comm w]
    exact z
  · obtain ⟨X, Y, W, B⟩ := hM.ok p hp
    obtain ⟨_, _, _, _, _, _, _, _, Z⟩ := pt_sum B A
    exact ⟨_, _, _, Z.up (le_cb (k := 51) (pw2 (Nat.le_refl _) (Nat.le_refl _)) (by decide))⟩
theorem sml_times {pts : List (List Int)} {S : Nat} {w : Int} {n : Nat} (hM : Sml pts S) (h : w.natAbs ≤ 2 ^ n) (hn : n ≤ 40) : S * w.toNat < SB := by
  have h1 : w.toNat ≤ 2 ^ n := by omega
  have h2 : S * w.toNat ≤ 2 ^ 60 * 2 ^ n := Nat.mul_le_mul (Nat.le_of_lt hM.s1) h1
  rw [← Nat.pow_add] at h2
  refine Nat.lt_of_le_of_lt h2 ?_
  unfold SB
  exact Nat.pow_lt_pow_right
        (by decide) (by omega)
abbrev p_sw : List Str := ["section", "way"]
abbrev n_moved : List Str := ["section", "way", "corner"]
section
variable {P' : Program} {w : World} {K :
      PySem.W.Frag} {mg : Str → Option Value} {base : Heap}
end
end K05
namespace K05
open PySem L2 Ur Hull
def mirL : List Int → List Int
  | [x, y, w] => [-x, y, w]
  | _ => []
theorem pt_mir {a : List Int} {x y w : Int} {n : Nat} (A : PtL n a x y w) : PtL n (mirL a) (-x) y w := by
  have ea := A.eq
  subst ea
  exact ⟨rfl, A.pos, by rw [Int.natAbs_neg]; exact A.red, by rw [Int.natAbs_neg]; exact A.bx, A.bby, A.bw⟩
theorem led_rot {pts : List (List Int)} {S : Nat} (h0 : 0 < S) (hP : ∀ p ∈ pts, Pk S p) : Led (pts.map qtrL) ((pts.map (fsc S)).map rot) S := by
  refine led_of h0 hP _ _ (fun p hp => ?_) fun p hp => (qtr_pk (hP p hp)).pt
  have z := Q3.of_pk h0 (qtr_pk (hP p hp))
  rw [qtr_rot (hP p hp)] at z
  exact z
theorem led_mir {pts : List (List Int)} {S : Nat} (h0 : 0 < S) (hP : ∀ p ∈ pts, Pk S p) : Led (pts.map mirL) ((pts.map (fsc S)).map mir) S := by
  refine led_of h0 hP _ _ (fun p hp => ?_) fun p hp => ?_
  · obtain ⟨x, y, w, A⟩ := (hP p hp).pt
    have hd := (hP p hp).dv
    have e := A.eq
    subst e
    have k : Pk S (mirL [x, y, w]) := ⟨⟨-x, y, w, pt_mir A⟩, hd⟩
    have z := Q3.of_pk h0 k
    have e : fsc S (mirL [x, y, w]) = mir (fsc S [x, y, w]) := by
      show (-x * ((S : Int) / w), y * ((S : Int) / w)) = (-(x * ((S : Int) / w)), y * ((S : Int) / w))
      rw [Int.neg_mul]
    rw [e] at z
    exact z
  · obtain ⟨x, y, w, A⟩ := (hP p hp).pt
    exact ⟨_, _, _, pt_mir A⟩
theorem al_led {K : PySem.W.Frag} {H : Hp} {zs xs : List V} {pts : List (List Int)} {f : List Int → List Int} (e1 : zs.length = xs.length) (hl : xs.length = pts.length) (e2 : ∀ (i : Nat) (y : V), zs[i]? = some y → Tp K H y (f (pts.getD i []))) : Al (Tp K H) zs (pts.map f) :=
  ⟨by rw [e1, hl, List.length_map], fun i y p hy hp => by
    have h1 := e2 i y hy
    rw [List.getElem?_map] at hp
    cases e : pts[i]? with
    | none => rw [e] at hp; cases hp
    | some z =>
      rw [e] at hp
      have gp : pts.getD i [] = z := by rw [List.getD_eq_getElem?_getD, e]; rfl
      rw [gp] at h1
      rw [← Option.some.inj hp]
      exact h1⟩
section
variable {P' : Program} {w : World} {K :
      PySem.W.Frag} {mg : Str → Option Value} {base : Heap}
abbrev n_turned : List Str := ["section", "corner"]
abbrev n_mirrored : List Str := ["section", "x", "y", "w"]
end
end K05
namespace K05
open PySem L2 Ur Hull
/-- a fraction is let -/
def spFrG (K : PySem.W.Frag) (r : V) : Sp := fun vs H Q _ => ∃ (v : V) (a : List Int) (t e : Int) (n : Nat), vs = [v] ∧ Tp K H v a ∧ FrL n a t e ∧ n ≤ WB ∧ ∀ H', Same H H' → Q r H'
section
variable {P' : Program} {w : World} {K :
      PySem.W.Frag} {mg : Str → Option Value} {base : Heap}
abbrev p_sf : List Str := ["section", "fraction"]
abbrev n_grown : List Str := ["section", "fraction", "corner"]
theorem led_by {pts : List (List Int)} {S : Nat} {a : List Int} {t e : Int} (h0 : 0 < S) (hM : Sml pts S) (hP : ∀ p ∈ pts, Pk S p) (A : FrL (2 ^ 10) a t e) :
    Led (pts.map fun p => byL p a) ((pts.map (fsc S)).map (mov t (0, 0))) (S * e.toNat) := by
  have e0 := A.pos
  have ee : ((S * e.toNat : Nat) : Int) = S * e := by rw [Int.natCast_mul, Int.toNat_of_nonneg (by omega)]
  refine led_of h0 hP _ _ (fun p hp => ?_) fun p hp => ?_
  · have z := (Q3.of_pk h0 (hP p hp)).by_ (Q2.of_fr A)
    rw [ee]
    show Q3 _ (t * (fsc S p).1 + 0) (t * (fsc S p).2 + 0) _
    rw [Int.add_zero, Int.add_zero, Int.mul_comm t, Int.mul_comm t]
    exact z
  · obtain ⟨X, Y, W, B⟩ := hM.ok p hp
    obtain ⟨_, _, _, _, _, _, _, _, Z⟩ := pt_by B A
    exact ⟨_, _, _, Z.up (le_cb (k := 50) (pw1 (Nat.le_refl _) (Nat.le_refl _)) (by decide))⟩
end
end K05
namespace K05
open PySem L2 Ur Hull
def spExc (K : PySem.W.Frag) : Sp := fun vs H Q _ => ∃ (v v' : V) (a b h x y w : Int), vs = [v, v'] ∧ Tp K H v [a, b, h] ∧ Tp K H v' [x, y, w] ∧ a.natAbs < 2 ^ 2301 ∧ b.natAbs < 2 ^ 2301 ∧ h.natAbs < 2 ^ 2301 ∧ x.natAbs < 2 ^ 2301 ∧ y.natAbs < 2 ^ 2301 ∧ w.natAbs < 2 ^ 2301 ∧ Q (.int (a * x + b * y - h * w)) H
section
variable {P' : Program} {w : World} {K :
      PySem.W.Frag} {mg : Str → Option Value} {base : Heap}
abbrev p_lp : List Str := ["line", "point"]
abbrev p_lled : List Str := ["_law_kind", "_law_spot_here", "_law_step", "_law_part"]
end
end K05
namespace Ur
open PySem L2 PyProof.Rows
/-- [e for i, x in enumerate(t)], t a tuple -/
theorem lcETh {K : PySem.W.Frag} {a : Addr} {xs : List V} {te : TE} {ta : TA} {vs : List Nat} {i1 j1 : Nat} {σ : L2.St} {H : Hp} {Q : VK} (Pe : Hp → Nat → V → Prop) (hm : Mono H Pe) (hx : ∀ R : List V → Hp → Prop, R [.ref a] H → ta σ H R) (hs : SqT K H a xs) (hz : xs.length ≤ 100000)
    (hw : ∀ x y, wipe (((wipe σ vs).set i1 (some x)).set j1 (some y)) vs = wipe σ vs)
    (he : ∀ (i : Nat) x H3, xs[i]? = some x → Same H H3 → ∀ Q' : VK, (∀ y H4, Pe H4 i y → Same H3 H4 → Q' y H4) → te (((wipe σ vs).set i1 (some (.int (i : Nat)))).set j1 (some x)) H3 Q')
    (hq : ∀ D ys H', H D = none → Same H H' → H' D = some (.lst ys) → ys.length = xs.length → (∀ i y, ys[i]? = some y → Pe H' i y) → Q (.ref D) H') : tLc (iEnumT K ta) (gPair K i1 j1) tYes te vs σ H Q := by
  refine hx _ ⟨a, xs, rfl, hs, fun D hD => ?_⟩
  refine lc_it (walk_enumT (K := K) (a := a) (xs := xs)) (MadeH H Pe D) (.start hD) (fun i H' _ m => same_sqT m.same hs) (fun i v H3 H' hi m hY => ?_) (fun H' ⟨hn, sm, ys, h1, h2, h3⟩ => hq D ys H' hn sm h1 h2 h3)
  obtain ⟨T, x, h1, h2, h3, h5⟩ := hY
  subst h1 h3
  have s3 := same_new (p := T) (o := HO.tup [.int (i : Nat), x]) h2
  refine pair_in upd_same ⟨hw _ _, ?_⟩
  unfold tYes
  dsimp only
  rw [if_pos rfl]
  exact (m.on hm s3).turn hm (by omega) fun Q' q' => he i x _ h5 (m.same.trans s3) Q' q'
end Ur
namespace K05
open PySem L2 Ur Hull
/-- a promise of a function that is never called -/
def spNo : Sp := fun _ _ _ _ => False
/-- the line through two corners -/
def lnL : List Int → List Int → List Int
  | [x, y, w], [u, v, z] => lineL x y w u v z
  | _, _ => []
/-- the corner before number i -/
def befI (n i : Nat) : Nat := if i = 0 then n - 1 else i - 1
def lnAt (pts : List (List Int)) (i : Nat) : List Int := lnL (pts.getD (befI pts.length i) []) (pts.getD i [])
def spHalf (K : PySem.W.Frag) : Sp := fun vs H Q _ => ∃ (t : Addr) (xs : List V) (pts : List (List Int)), vs = [.ref t] ∧ SqT K H t xs ∧ Al (Tp K H) xs pts ∧ 3 ≤ pts.length ∧ pts.length ≤ 1000 ∧ (∀ p ∈ pts, Pt3 CB p) ∧
  ∀ (l : Addr) (ls : List V) H', Same H H' → H' l = some (.lst ls) → ls.length = pts.length → (∀ (i : Nat) (y : V), ls[i]? = some y → Tp K H' y (lnAt pts i)) → Q (.ref l) H'
section
variable {P' : Program} {w : World} {K :
      PySem.W.Frag} {mg : Str → Option Value} {base : Heap}
abbrev n_half : List Str := ["polygon", "x", "y", "w", "sides", "k", "corner"]
theorem atI_before {xs : List V} {i : Nat} {v : V} (hi : i < xs.length) (h : xs[befI xs.length i]? = some v) : atI xs ((i : Int) - 1) = some v := by
  unfold befI at h
  cases i with
  | zero =>
    rw [if_pos rfl] at h
    have hne : xs ≠ [] := fun e => by rw [e] at hi; simp at hi
    obtain ⟨ys, y, rfl⟩ : ∃ ys y, xs = ys ++ [y] := ⟨xs.dropLast, xs.getLast hne, (List.dropLast_concat_getLast hne).symm⟩
    have e : (ys ++ [y]).length - 1 = ys.length := by simp
    rw [e, List.getElem?_append_right (Nat.le_refl _), Nat.sub_self] at h
    rw [← Option.some.inj h]
    exact atI_last ys y
  | succ j =>
    rw [if_neg (Nat.succ_ne_zero j)] at h
    have e : ((j + 1 : Nat) : Int) - 1 = (j : Nat) := by omega
    rw [e]
    exact atI_nat h
end
end K05
namespace Ur
open PySem L2 PyProof.Rows
/-- [e for x in f(..)], f's list new, e a truth -/
theorem lcLx {K : PySem.W.Frag} {tl te : TE} {vs : List Nat} {j1 n : Nat} {σ : L2.St} {H : Hp} {Q : VK} (P : List V → Hp → Prop) (f : Nat → Bool) (hx : ∀ R : VK, (∀ a xs H1, Same H H1 → H1 a = some (.lst xs) → xs.length = n → P xs H1 → R (.ref a) H1) → tl σ H R) (hz : n ≤ 100000)
    (hw : ∀ x, wipe ((wipe σ vs).set j1 (some x)) vs = wipe σ vs)
    (he : ∀ xs H1, Same H H1 → xs.length = n → P xs H1 → ∀ (i : Nat) x H3, xs[i]? = some x → Same H1 H3 → ∀ Q' : VK, (∀ H4, Same H3 H4 → Q' (.bl (f i)) H4) → te ((wipe σ vs).set j1 (some x)) H3 Q')
    (hq : ∀ D H', Same H H' → H' D = some (.lst (((List.range n).map f).map V.bl)) → Q (.ref D) H') : tLc (iList K tl) (gName j1) tYes te vs σ H Q := by
  have hm : ∀ H1, Mono H1 fun _ i y => y = .bl (f i) := fun _ _ _ _ _ _ _ _ _ _ h => h
  refine hx _ fun a xs H1 s1 ha hn hp => ⟨a, rfl, ⟨xs, SqL.of ha⟩, fun D hD => ?_⟩
  refine lc_list (xs := xs) (MadeH H1 (fun _ i y => y = .bl (f i)) D) (.start hD) (fun i H' _ m => m.same.seq (SqL.of ha)) (fun i x H' hi m => ⟨hw x, ?_⟩) (fun H' ⟨_, sm, ys, h1, h2, h3⟩ => hq D H' (s1.trans sm) ?_)
  · have hl := (List.getElem?_eq_some_iff.mp hi).1
    unfold tYes
    dsimp only
    rw [if_pos rfl]
    exact m.turn (hm H1) (by omega) fun Q' q' => he xs H1 s1 hn hp i x H' hi m.same Q' fun H4 s4 => q' _ H4 rfl s4
  · have e : ys = ((List.range n).map f).map V.bl := by
      refine List.ext_getElem? fun i => ?_
      rw [List.getElem?_map,
            List.getElem?_map]
      by_cases hi : i < n
      · have e : ys[i]? = some ys[i] := List.getElem?_eq_getElem (by omega)
        rw [e, List.getElem?_range hi, h3 i _ e]
        rfl
      · rw [List.getElem?_eq_none (by omega), List.getElem?_eq_none (by rw [List.length_range]; omega)]
        rfl
    rw [← e]
    exact h1
end Ur
namespace K05
open PySem L2 Ur Hull
/-- what a line says of a point -/
def exL : List Int → List Int → Int
  | [a, b, h], [x, y, w] => a * x + b * y - h * w
  | _, _ => 0
def hasB (pts : List (List Int)) (q : List Int) : Bool := ((List.range pts.length).map fun i => decide (exL (lnAt pts i) q ≤ 0)).all id
abbrev p_gp : List Str := ["polygon", "point"]
abbrev n_gp : List Str := ["polygon", "point", "line"]
def spHasP (K : PySem.W.Frag) : Sp := fun vs H Q _ => ∃ (t : Addr) (v : V) (xs : List V) (pts : List (List Int)) (q : List Int) (x y w : Int) (n : Nat), vs = [.ref t, v] ∧ SqT K H t xs ∧ Al (Tp K H) xs pts ∧ 3 ≤ pts.length ∧ pts.length ≤ 1000 ∧ (∀ p ∈ pts, Pt3 CB p) ∧ Tp K H v q ∧ PtL n q x y w ∧ n ≤ CB ∧ ∀ H', Same H H' → Q (.bl (hasB pts q)) H'
theorem line_bd {pts : List (List Int)} (hC : ∀ p ∈ pts, Pt3 CB p) (h3 : 3 ≤ pts.length) {i : Nat} (hi : i < pts.length) : ∃ a b h : Int, lnAt pts i = [a, b, h] ∧ a.natAbs < 2 ^ 2301 ∧ b.natAbs < 2 ^ 2301 ∧ h.natAbs < 2 ^ 2301 := by
  have hb : befI pts.length i < pts.length := by unfold befI; split <;> omega
  obtain ⟨X, Y, W, B⟩ := hC _ (List.getElem_mem hb)
  obtain ⟨X', Y', W', B'⟩ := hC _ (List.getElem_mem hi)
  have e1 : pts.getD (befI pts.length i) [] = [X, Y, W] := by rw [List.getD_eq_getElem?_getD, List.getElem?_eq_getElem hb]; exact B.eq
  have e2 : pts.getD i [] = [X', Y', W'] := by rw [List.getD_eq_getElem?_getD, List.getElem?_eq_getElem hi]; exact B'.eq
  have big : CB * CB + CB * CB < 2 ^ 2301 := by
    refine Nat.lt_of_le_of_lt (show CB * CB + CB * CB ≤ 2 ^ 1401 from ?_) (Nat.pow_lt_pow_right (by decide) (by decide))
    unfold CB
    rw [← Nat.pow_add, show (1401 : Nat) = 1400 + 1 from rfl, Nat.pow_succ]
    omega
  refine ⟨Y' * W - Y * W', X * W' - X' * W, X * Y' - X' * Y, ?_, ?_, ?_, ?_⟩
  · unfold lnAt
    rw [e1, e2]
    rfl
  · exact Nat.lt_of_le_of_lt (subb (mulb B'.bby B.bw) (mulb B.bby B'.bw)) big
  · exact Nat.lt_of_le_of_lt (subb (mulb B.bx B'.bw) (mulb B'.bx B.bw)) big
  · exact Nat.lt_of_le_of_lt (subb (mulb B.bx B'.bby) (mulb B'.bx B.bby)) big
section
variable {P' : Program} {w : World} {K :
      PySem.W.Frag} {mg : Str → Option Value} {base : Heap}
/-- whether a section holds a point -/
def spHolds (K : PySem.W.Frag) : Sp := fun vs H Q _ => ∃ (v u : V) (xs : List V) (pts : List (List Int)) (S : Nat) (q : List Int) (x y w : Int) (n : Nat), vs = [v, u] ∧ SecV K H v xs pts S ∧ Tp K H u q ∧ PtL n q x y w ∧ n ≤ CB ∧ ∀ H', Same H H' → Q (.bl (hasB pts q)) H'
end
end K05
namespace K05
open PySem L2 Ur Hull
/-! ### what a line says of a point, over one number -/
theorem ex_tt {p p' q : List Int} {X Y X' Y' A B : Int} {N : Int} (hp : Q3 p X Y N) (hp' : Q3 p' X' Y' N) (hq : Q3 q A B N) : exL (lnL p p') q ≤ 0 ↔ 0 ≤ tt (X, Y) (X', Y') (A, B) := by
  have hN := hp.pos
  obtain ⟨g, x, y, r, g0, e1, e2, e3, rfl, r0⟩ := hp.red
  obtain ⟨g', x', y', r', g0', e1', e2', e3', rfl, r0'⟩ := hp'.red
  obtain ⟨g2, a, b, c, g20, f1, f2, f3, rfl, c0⟩ := hq.red
  have hval : exL (lnL [x, y, r] [x', y', r']) [a, b, c] = (y' * r - y * r') * a + (x * r' - x' * r) * b - (x * y' - x' * y) * c := rfl
  rw [hval]
  have hG : 0 < g * g' * g2 := Int.mul_pos (Int.mul_pos g0 g0') g20
  have key : (g * g' * g2) * ((y' * r - y * r') * a + (x * r' - x' * r) * b - (x * y' - x' * y) * c) = -(N * tt (X, Y) (X', Y') (A, B)) := by
    have h1 : (g * g' * g2) * ((y' * r - y * r') * a + (x * r' - x' * r) * b - (x * y' - x' * y) * c) = ((g' * y') * (g * r) - (g * y) * (g' * r')) * (g2 * a) + ((g * x) * (g' * r') - (g' * x') * (g * r)) * (g2 * b) - ((g * x) * (g' * y') - (g' * x') * (g * y)) * (g2 * c) := by grind
    rw [h1, ← e1, ← e2, ← e3, ← e1', ← e2', ← e3', ← f1, ← f2, ← f3]
    unfold tt
    simp only
    grind
  generalize (y' * r - y * r') * a + (x * r' - x' * r) * b - (x * y' - x' * y) * c = E at *
  generalize tt (X, Y) (X', Y') (A, B) = T at *
  constructor
  · intro h
    refine Classical.byContradiction
          fun hn => ?_
    have h1 : 0 < N * (-T) := Int.mul_pos hN (by omega)
    rw [Int.mul_neg] at h1
    have h2 := Int.mul_nonneg (Int.le_of_lt hG) (by omega : 0 ≤ -E)
    rw [Int.mul_neg] at h2
    omega
  · intro h
    refine Classical.byContradiction
          fun hn => ?_
    have h1 : 0 < (g * g' * g2) * E := Int.mul_pos hG (by omega)
    have h2 := Int.mul_nonneg (Int.le_of_lt hN) h
    omega
/-- 1 where the point lies to the right of an edge -/
def vio (Q a b : P) : Int := if 0 ≤ tt a b Q then 0 else 1
theorem vio_nn (Q a b : P) : 0 ≤ vio Q a b := by unfold vio; split <;> decide
theorem sumTo_zero {F : Nat → Int} (h : ∀ i, 0 ≤ F i) : ∀ n : Nat, 0 ≤ sumTo F n ∧ (sumTo F n = 0 ↔ ∀ i, i < n → F i = 0)
  | 0 => ⟨by show (0 : Int) ≤ 0; decide, ⟨fun _ i hi => absurd hi (by omega), fun _ => rfl⟩⟩
  | n + 1 => by
    obtain ⟨h1, h2⟩ := sumTo_zero h n
    have h3 := h n
    have e : sumTo F (n + 1) = sumTo F n + F n := rfl
    refine ⟨by omega, ⟨fun z i hi => ?_, fun z => ?_⟩⟩
    · have z1 : sumTo F n = 0 := by omega
      have z2 : F n = 0 := by omega
      rcases Nat.lt_or_ge i n with k | k
      · exact h2.mp z1 i k
      · have : i = n := by omega
        rw [this]; exact z2
    · rw [e, h2.mpr fun i hi => z i (Nat.lt_succ_of_lt hi), z n (Nat.lt_succ_self n)]
      rfl
/-- once round, told by the corner before each -/
theorem cyc_bef (f : P → P → Int) {l : List P} (h : l ≠ []) : cyc f l = sumTo (fun i => f (nthP l (befI l.length i)) (nthP l i)) l.length := by
  obtain ⟨m, z, rfl⟩ : ∃ m z, l = m ++ [z] := ⟨l.dropLast, l.getLast h, (List.dropLast_concat_getLast h).symm⟩
  have e1 : cyc f (m ++ [z]) = seg f (z :: (m ++ [z])) := by
    rw [cyc_rot]
    rfl
  rw [e1, ← sumTo_seg]
  have e2 : (z :: (m ++ [z])).length - 1 = (m ++ [z]).length := rfl
  rw [e2]
  refine sumTo_ext fun i hi => ?_
  have e3 : nthP (z :: (m ++ [z])) i = nthP (m ++ [z]) (befI (m ++ [z]).length i) := by
    unfold befI
    cases i with
    | zero =>
      rw [if_pos rfl]
      show z = (m ++ [z]).getD ((m ++ [z]).length - 1) (0, 0)
      rw [List.getD_eq_getElem?_getD, show (m ++ [z]).length - 1 = m.length by simp, List.getElem?_append_right (Nat.le_refl _), Nat.sub_self]
      rfl
    | succ j => rfl
  rw [e3]
  rfl
/-- whether a section holds a point: to the right of no edge -/
theorem hasB_cyc {pts : List (List Int)} {l : List P} {N : Nat} {q : List Int} {Q : P} (hne : l ≠ []) (hl : pts.length = l.length) (hp : ∀ (i : Nat) (p : List Int) (r : P), pts[i]? = some p → l[i]? = some r → Q3 p r.1 r.2 (N : Nat)) (hq : Q3 q Q.1 Q.2 (N : Nat)) : hasB pts q = decide (cyc (vio Q) l = 0) := by
  have hpos : 0 < l.length := by
    cases l with
    | nil => exact (hne rfl).elim
    | cons x r => simp
  have at_ : ∀ {i}, i < l.length → Q3 (pts.getD i []) (nthP l i).1 (nthP l i).2 (N : Nat) := fun {i} hi => by
    have e1 : pts[i]? = some (pts[i]'(by omega)) := List.getElem?_eq_getElem _
    have e2 : l[i]? = some l[i] := List.getElem?_eq_getElem hi
    have := hp i _ _ e1 e2
    have g1 : pts.getD i [] = pts[i]'(by omega) := by rw [List.getD_eq_getElem?_getD, e1]; rfl
    have g2 : nthP l i = l[i] := by show l.getD i (0, 0) = _; rw [List.getD_eq_getElem?_getD, e2]; rfl
    rw [g1, g2]
    exact this
  rw [cyc_bef _ hne]
  obtain ⟨_, hz⟩ := sumTo_zero (F := fun i => vio Q (nthP l (befI l.length i)) (nthP l i)) (fun i => vio_nn _ _ _) l.length
  refine (Bool.eq_iff_iff).mpr ⟨fun h => decide_eq_true (hz.mpr fun i hi => ?_), fun h => ?_⟩
  · unfold hasB at h
    rw [List.all_eq_true] at h
    have := h _ (List.mem_map.mpr ⟨i, List.mem_range.mpr (by omega), rfl⟩)
    have hb : befI l.length i < l.length := by unfold befI; split <;> omega
    have h1 := (ex_tt (at_ hb) (at_ hi) hq).mp (by
      have h2 := of_decide_eq_true this
      unfold lnAt at h2
      rw [hl] at h2
      exact h2)
    show vio Q _ _ = 0
    unfold vio
    exact if_pos h1
  · unfold hasB
    rw [List.all_eq_true]
    intro b hb
    obtain ⟨i, hi, rfl⟩ := List.mem_map.mp hb
    have hi : i < l.length := by have := List.mem_range.mp hi; omega
    have hb : befI l.length i < l.length := by unfold befI; split <;> omega
    have h1 := hz.mp (of_decide_eq_true h) i hi
    have h2 : 0 ≤ tt (nthP l (befI l.length i)) (nthP l i) Q := Classical.byContradiction fun hn => by
      have h1 : vio Q (nthP l (befI l.length i)) (nthP l i) = 0 := h1
      unfold vio at h1
      rw [if_neg hn] at h1
      exact absurd h1 (by decide)
    have h3 := (ex_tt (at_ hb) (at_ hi) hq).mpr h2
    refine decide_eq_true ?_
    unfold lnAt
    rw [hl]
    exact h3
/-- backwards once round -/
theorem seg_rev (f : P → P → Int) : ∀ l : List P, seg f l.reverse = seg (fun a b => f b a) l
  | [] => rfl
  | [_] => rfl
  | a :: b :: r => by
    have ih := seg_rev f (b :: r)
    rw [List.reverse_cons, List.reverse_cons] at *
    have h := seg_snoc f b a r.reverse
    have e : r.reverse ++ [b, a] = r.reverse ++ [b] ++ [a] := by simp
    rw [e] at h
    show seg f (r.reverse ++ [b] ++ [a]) = f b a + seg (fun a b => f b a) (b :: r)
    rw [h, ih]
    omega
theorem cyc_rev (f : P → P → Int) (l : List P) : cyc f l.reverse = cyc (fun a b => f b a) l := by
  cases l with
  | nil => rfl
  | cons x r =>
    have e1 : cyc f (x :: r).reverse = cyc f (x :: r.reverse) := by
      rw [List.reverse_cons, cyc_rot]
      rfl
    rw [e1]
    show seg f (x :: (r.reverse ++ [x])) = seg (fun a b => f b a) (x :: (r ++ [x]))
    rw [← seg_rev]
    simp
end K05
namespace K05
open PySem L2 Ur Hull
/-! ### sums once round, of mixed functions -/
theorem seg_mix {F f g : P → P → Int} {h : P → Int} {k m : Int} (e : ∀ a b, F a b = k * f a b + m * g a b + (h b - h a)) : ∀ (r : List P) (x y : P), seg F (x :: (r ++ [y])) = k * seg f (x :: (r ++ [y])) + m * seg g (x :: (r ++ [y])) + (h y - h x)
  | [], x, y => by
    show F x y + 0 = k * (f x y + 0) + m * (g x y + 0) + (h y - h x)
    rw [e]
    grind
  | z :: r, x, y => by
    show F x z + seg F (z :: (r ++ [y])) = k * (f x z + seg f (z :: (r ++ [y]))) + m * (g x z + seg g (z :: (r ++ [y]))) + (h y - h x)
    rw [e, seg_mix e r z y]
    grind
theorem cyc_mix {F f g : P → P → Int} (h : P → Int) {k m : Int} (e : ∀ a b, F a b = k * f a b + m * g a b + (h b - h a)) (l : List P) : cyc F l = k * cyc f l + m * cyc g l := by
  cases l with
  | nil => show (0 : Int) = k * 0 + m * 0; grind
  | cons x r =>
    show seg F (x :: (r ++ [x])) = k * seg f (x :: (r ++ [x])) + m * seg g (x :: (r ++ [x]))
    rw [seg_mix e r x x]
    grind
theorem gA_mov (k : Int) (v : P) (l : List P) : cyc gA (l.map (mov k v)) = k * k * cyc gA l := by
  rw [cyc_map, cyc_mix (f := gA) (g := gA) (k := k * k) (m := 0) (fun p => k * (v.1 * p.2 - v.2 * p.1)) (fun a b => by unfold gA cr mov; grind) l]
  grind
theorem gX_mov (k : Int) (v : P) (l : List P) : cyc gX (l.map (mov k v)) = k * k * k * cyc gX l + 3 * (k * k) * v.1 * cyc gA l := by
  rw [cyc_map]
  exact cyc_mix (f := gX) (g := gA) (k := k * k * k) (m := 3 * (k * k) * v.1) (fun p => k * k * (v.1 * (p.1 * p.2)) - k * k * (v.2 * (p.1 * p.1)) + 2 * v.1 * (k * (v.1 * p.2 - v.2 * p.1))) (fun a b => by unfold gX gA cr mov; grind) l
theorem gY_mov (k : Int) (v : P) (l : List P) : cyc gY (l.map (mov k v)) = k * k * k * cyc gY l + 3 * (k * k) * v.2 * cyc gA l := by
  rw [cyc_map]
  exact cyc_mix (f := gY) (g := gA) (k := k * k * k) (m := 3 * (k * k) * v.2) (fun p => k * k * (v.1 * (p.2 * p.2)) - k * k * (v.2 * (p.1 * p.2)) + 2 * v.2 * (k * (v.1 * p.2 - v.2 * p.1))) (fun a b => by unfold gY gA cr mov; grind) l
theorem cyc_ext {f g : P → P → Int} (e : ∀ a b, f a b = g a b) (l : List P) : cyc f l = cyc g l := by
  rw [cyc_mul (f := f) (g := g) (k := 1) (fun a b => by rw [e, Int.one_mul]), Int.one_mul]
theorem cyc_neg {f g : P → P → Int} (e : ∀ a b, f a b = - g a b) (l : List P) : cyc f l = - cyc g l := by
  rw [cyc_mul (f := f) (g := g) (k := -1) (fun a b => by rw [e]; omega)]
  omega
/-! ### a section led along -/
/-- the row of the led points, that goes round to the left -/
def rowL (g : P → P) (sw : Bool) (l : List P) : List P := if sw then (l.map g).reverse else l.map g
section
variable {f : List Int → List Int} {g : P → P} {sw : Bool} {pts : List (List Int)} {S S' : Nat}
/-- what a hull is made of says what it is -/
theorem hull_again (s : Sec pts S) {qs : List (List Int)} (h : ∀ z, z ∈ qs ↔ z ∈ pts) : hullOf qs = pts := by
  have h0 := s.pol.scb.s0
  have hP : ∀ p ∈ pts, Pk S p := fun p hp => ⟨s.pol.scb.ok p hp, s.pol.scb.dvd p hp⟩
  rw [← hullL_indep h0 (fun q hq => hP q ((h q).mp hq)), ← s.pol.self, ← hullL_indep h0 hP, hullL_indep h0 hP, s.pol.self]
  unfold hullL
  rw [hl_same (l := qs.map (fsc S)) (m := pts.map (fsc S)) fun z => by
    simp only [List.mem_map]
    exact ⟨fun ⟨a, b, c⟩ => ⟨a, (h a).mp b, c⟩, fun ⟨a, b, c⟩ => ⟨a, (h a).mpr b, c⟩⟩]
  exact (hullL_indep h0 hP).trans s.pol.self
end
end K05
namespace K05
open PySem L2 Ur Hull
theorem Q2.mul {a b : List Int} {t e u d : Int} (A : Q2 a t e) (B : Q2 b u d) : Q2 (mulF a b) (t * u) (e * d) := by
  obtain ⟨g, p, r, g0, e1, e3, rfl, r0⟩ := A.red
  obtain ⟨g', p', r', g0', e1', e3', rfl, r0'⟩ := B.red
  have h : Q2 (mulF [p, r] [p', r']) (p * p') (r * r') := ⟨Int.mul_pos r0 r0', rfl⟩
  exact h.up (k := g * g') (Int.mul_pos g0 g0') (by rw [e1, e1']; grind) (by rw [e3, e3']; grind)
theorem Q3.pt {a : List Int} {x y w : Int} (h : Q3 a x y w) : ∃ (n : Nat) (g p q r : Int), 0 < g ∧ x = g * p ∧ y = g * q ∧ w = g * r ∧ PtL n a p q r := by
  obtain ⟨g, p, q, r, g0, e1, e2, e3, A⟩ := pt_thin (x := x) (y := y) (w := w) (n := x.natAbs + y.natAbs + w.natAbs) h.pos (by omega) (by omega) (by omega)
  exact ⟨_, g, p, q, r, g0, e1, e2, e3, h.eq ▸ A⟩
theorem Q3.qtr {a : List Int} {x y w : Int} (h : Q3 a x y w) : Q3 (qtrL a) (-y) x w := by
  obtain ⟨n, g, p, q, r, g0, e1, e2, e3, A⟩ := h.pt
  exact (Q3.of_pt (pt_qtr A)).up g0 (by rw [e2]; grind) e1 e3
theorem Q3.mir {a : List Int} {x y w : Int} (h : Q3 a x y w) : Q3 (mirL a) (-x) y w := by
  obtain ⟨n, g, p, q, r, g0, e1, e2, e3, A⟩ := h.pt
  exact (Q3.of_pt (pt_mir A)).up g0 (by rw [e1]; grind) e2 e3
section
variable {pts : List (List Int)} {S : Nat} {s f : List Int} {x y w t e : Int}
theorem Sec.pks (h : Sec pts S) : ∀ p ∈ pts, Pk S p := fun p hp => ⟨h.pol.scb.ok p hp, h.pol.scb.dvd p hp⟩
theorem nat_pos {S : Nat} {w : Int} (h0 : 0 < S) (h : 0 < w) : 0 < S * w.toNat := Nat.mul_pos h0 (by omega)
def cK (k : Nat) (f : List Int) : List Int := if k = 3 then mulF f f else [1, 1]
theorem one_mul_f {b : List Int} {T E : Int} (h : Q2 b T E) : mulF b [1, 1] = b := by
  have : Q2 [1, 1] 1 1 := ⟨by decide, (thin_one (by decide)).symm⟩
  have := h.mul this
  rw [Int.mul_one, Int.mul_one] at this
  exact this.same h
theorem nn_mul {k T U : Int} (hk : 0 < k) (e : U = k * T) : 0 ≤ U ↔ 0 ≤ T := by
  subst e
  constructor
  · intro h
    exact Int.not_lt.mp fun n => by
      have := Int.mul_neg_of_pos_of_neg hk n
      omega
  · exact fun h => Int.mul_nonneg (by omega) h
theorem tn_times (hT : Tny pts S) {w : Int} (h : w.natAbs ≤ 2 ^ 10) : S * w.toNat < 2 ^ 60 := by
  have h1 : w.toNat ≤ 2 ^ 10 := by omega
  have := Nat.mul_le_mul hT.s1 h1
  omega
def sK (k S : Nat) (w e : Int) : Nat := match k with
  | 0 => S * w.toNat
  | 3 => S * e.toNat
  | _ => S
/-! ### back again -/
theorem sum_back (A : PtL (2 ^ 10) s x y w) {p : List Int} (hp : Pk S p) : sumL (sumL p s) [-x, -y, w] = p := by
  obtain ⟨X, Y, W, B⟩ := hp.pt
  have A' : PtL (2 ^ 10) [-x, -y, w] (-x) (-y) w := ⟨rfl, A.pos, by rw [Int.natAbs_neg, Int.natAbs_neg]; exact A.red, by rw [Int.natAbs_neg]; exact A.bx, by rw [Int.natAbs_neg]; exact A.bby, A.bw⟩
  have z := ((Q3.of_pt B).sum (Q3.of_pt A)).sum (Q3.of_pt A')
  exact (z.sc (k := w * w) (Int.mul_pos A.pos A.pos) (by grind) (by grind) (by grind)).same (Q3.of_pt B)
theorem by_back (A : FrL (2 ^ 10) f t e) (ht : 0 < t) {p : List Int} (hp : Pk S p) : byL (byL p f) [e, t] = p := by
  obtain ⟨X, Y, W, B⟩ := hp.pt
  have A' : FrL (2 ^ 10) [e, t] e t := ⟨rfl, ht, by rw [Nat.gcd_comm]; exact A.red, A.bb, A.bt⟩
  have z := ((Q3.of_pt B).by_ (Q2.of_fr A)).by_ (Q2.of_fr A')
  exact (z.sc (k := t * e) (Int.mul_pos ht A.pos) (by grind) (by grind) (by grind)).same (Q3.of_pt B)
theorem mir_back {p : List Int} (hp : Pk S p) : mirL (mirL p) = p := by
  obtain ⟨X, Y, W, B⟩ := hp.pt
  rw [B.eq]
  show [- -X, Y, W] = _
  rw [Int.neg_neg]
theorem qtr_back {p : List Int} (hp : Pk S p) : qtrL (qtrL (qtrL (qtrL p))) = p := by
  obtain ⟨X, Y, W, B⟩ := hp.pt
  rw [B.eq]
  show [- -X, - -Y, W] = _
  rw [Int.neg_neg, Int.neg_neg]
end
end K05
namespace K05
open PySem L2 Ur Hull
theorem big_i {n : Int} {k : Nat} (h : n.natAbs < 2 ^ k) (hk : k ≤ 800) : Big (.int n) (k + 1) 0 := by
  have b := big_int (n := n) (Nat.lt_of_lt_of_le h (Nat.pow_le_pow_right (by decide) hk))
  have l : n.natAbs.log2 < k ∨ n.natAbs = 0 := by
    by_cases z : n.natAbs = 0
    · exact Or.inr z
    · exact Or.inl ((Nat.log2_lt z).mpr h)
  refine ⟨b.ls, ?_, b.sh, b.hd, b.dp⟩
  show (if n == 0 then 0 else n.natAbs.log2 + 1) ≤ k + 1
  rcases l with l | l
  · split <;> omega
  · have : n = 0 := by omega
    subst this
    exact Nat.zero_le _
theorem big_pt {p : List Int} (h : Pt3 (2 ^ 40) p) : Big (tupD p) 129 1 := by
  obtain ⟨x, y, w, A⟩ := h
  have ea := A.eq
  subst ea
  have lt : ∀ {z : Int}, z.natAbs ≤ 2 ^ 40 → z.natAbs < 2 ^ 41 := fun h => Nat.lt_of_le_of_lt h (by decide)
  exact Big.tup (.cons (big_i (lt A.bx) (by decide)) (.cons (big_i (lt A.bby) (by decide)) (.cons (big_i (lt A.bw) (by decide)) .nil)))
theorem bigA_all {f : List Int → PyData} {n k : Nat} : ∀ {as : List (List Int)}, (∀ a ∈ as, Big (f a) n k) → BigA (as.map f) ((n + 1) * as.length) k
  | [], _ => .nil
  | a :: r, h => by
    have := BigA.cons (h a List.mem_cons_self) (bigA_all (as := r) fun x hx => h x (List.mem_cons_of_mem _ hx))
    have e : (n + 1) * (a :: r).length = n + 1 + (n + 1) * r.length := by rw [List.length_cons, Nat.mul_succ]; omega
    rw [e]
    exact this
abbrev secD (d : List (List Int)) : PyData := .tuple (d.map tupD)
/-- a row of few small corners -/
structure Few (d : List (List Int)) : Prop where
  ok : ∀ p ∈ d, Pt3 (2 ^ 40) p
  len : d.length ≤ 8
theorem Few.big {d : List (List Int)} (h : Few d) : Big (secD d) 1040 2 := (Big.tup (bigA_all fun a ha => big_pt (h.ok a ha))).up (by have := h.len; omega) (Nat.le_refl _)
theorem bigs : ∀ {ds : List (List (List Int))}, (∀ d ∈ ds, Few d) → BigA (ds.map secD) (1041 * ds.length) 2
  | [], _ => .nil
  | a :: r, h => by
    have := BigA.cons (h a List.mem_cons_self).big (bigs (ds := r) fun x hx => h x (List.mem_cons_of_mem _ hx))
    have e : 1041 * (a :: r).length = 1040 + 1 + 1041 * r.length := by rw [List.length_cons]; omega
    rw [e]
    exact this
theorem big_facts {d : PyData} {n k : Nat} (o : Big d n k) (hn : n ≤ 50000) (hk : k ≤ 60) : d.showable = true ∧ d.hasDict = false ∧ d.shown.length ≤ sizeLine ∧ d.depth ≤ 60 := by
  have h := PyData.shown_le 300 (by decide) d o.ls
  have hw := o.wt
  exact ⟨o.sh, o.hd, Nat.le_trans h (Nat.le_trans (by omega : (300 + 2) * d.weight + 300 ≤ 16200000) (by decide)), Nat.le_trans o.dp hk⟩
theorem ne_same {z : Str} {R : Bool → Prop} (q : R false) : ∃ k, V.bl (!decide (V.str z = V.str z)) = V.bl k ∧ R k := ⟨false, congrArg V.bl (by rw [decide_eq_true rfl]; rfl), q⟩
theorem eq_same {z : Str} {R : V → Prop} (q : R (.bl true)) : R (V.bl (decide (V.str z = V.str z))) := by rw [decide_eq_true rfl]; exact q
/-- a told section -/
def HuV (K : PySem.W.Frag) (H : Hp) (v : V) (d : List (List Int)) : Prop := ∃ (r : Addr) (zs : List V), v = .ref r ∧ SqT K H r zs ∧ Al (Tp K H) zs d
theorem HuV.same {K : PySem.W.Frag} {H H' : Hp} {v : V} {d : List (List Int)} (s : Same H H') (h : HuV K H v d) : HuV K H' v d := by
  obtain ⟨r, zs, e, q, a⟩ := h
  exact ⟨r, zs, e, same_sqT s q, a.mono fun _ _ k => k.same s⟩
theorem HuV.dp {K : PySem.W.Frag} {H : Hp} {v : V} {d : List (List Int)} (h : HuV K H v d) : Dp K H v (secD d) := by
  obtain ⟨r, zs, rfl, q, a⟩ := h
  exact .tup q (al_data a)
theorem SecV.hu {K : PySem.W.Frag} {H : Hp} {v : V} {xs : List V} {pts : List (List Int)} {S : Nat} (h : SecV K H v xs pts S) : HuV K H v pts := by
  obtain ⟨t, e, q⟩ := h.ref
  exact ⟨t, xs, e, q, h.al⟩
theorem HuV.sec {K : PySem.W.Frag} {H : Hp} {v : V} {d : List (List Int)} {S : Nat} (h : HuV K H v d) (s : Sec d S) : ∃ zs, SecV K H v zs d S := by
  obtain ⟨r, zs, e, q, a⟩ := h
  exact ⟨zs, ⟨r, e, q⟩, a, s⟩
theorem Al.hus {K : PySem.W.Frag} {H : Hp} : ∀ {rs : List V} {ds : List (List (List Int))}, Al (HuV K H) rs ds → DpAll K H rs (ds.map secD)
  | [], [], _ => .nil
  | [], _ :: _, h => absurd h.len (by simp)
  | _ :: _, [], h => absurd h.len (by simp)
  | y :: ys, p :: pts, h => .cons (h.at_ 0 y p rfl rfl).dp (Al.hus ⟨by have := h.len; simpa using this, fun i y' p' a b => h.at_ (i + 1) y' p' a b⟩)
theorem Al.one {α : Type} {R : V → α → Prop} {y : V} {p : α} {ys : List V} {ps : List α} (h : R y p) (t : Al R ys ps) : Al R (y :: ys) (p :: ps) :=
  ⟨by rw [List.length_cons, List.length_cons, t.len], fun i z q a b => by
    cases i with
    | zero => cases a; cases b; exact h
    | succ i => exact t.at_ i z q a b⟩
theorem Al.none {α : Type} {R : V → α → Prop} : Al R [] ([] : List α) := ⟨rfl, fun i z q a b => by cases i <;> cases a⟩
/-- a list of told sections -/
def Hus (K : PySem.W.Frag) (H : Hp) (v : V) (ds : List (List (List Int))) : Prop := ∃ (l : Addr) (rs : List V), v = .ref l ∧ H l = some (.lst rs) ∧ Al (HuV K H) rs ds
theorem Hus.same {K : PySem.W.Frag} {H H' : Hp} {v : V} {ds : List (List (List Int))} (s : Same H H') (h : Hus K H v ds) : Hus K H' v ds := by
  obtain ⟨l, rs, e, q, a⟩ := h
  exact ⟨l, rs, e, s _ _ q, a.mono fun _ _ k => k.same s⟩
/-- points told in a list -/
def Sps (K : PySem.W.Frag) (H : Hp) (v : V) (qs : List (List Int)) : Prop := ∃ (l : Addr) (zs : List V), v = .ref l ∧ H l = some (.lst zs) ∧ Al (Tp K H) zs qs
theorem Sps.same {K : PySem.W.Frag} {H H' : Hp} {v : V} {qs : List (List Int)} (s : Same H H') (h : Sps K H v qs) : Sps K H' v qs := by
  obtain ⟨l, rs, e, q, a⟩ := h
  exact ⟨l, rs, e, s _ _ q, a.mono fun _ _ k => k.same s⟩
theorem Al.at2 {α : Type} {R : V → α → Prop} {ys : List V} {ps : List α} (h : Al R ys ps) {k : Nat} {p : α} (e : ps[k]? = some p) : ∃ y, ys[k]? = some y ∧ R y p := by
  have hk := (List.getElem?_eq_some_iff.mp e).1
  have hk' : k < ys.length := by rw [h.len]; exact hk
  exact ⟨_, List.getElem?_eq_getElem hk', h.at_ k _ _ (List.getElem?_eq_getElem hk') e⟩
theorem ne_pt {K : PySem.W.Frag} {H : Hp} {v v' : V} {a : List Int} {Q : VK} (h : Tp K H v a) (h' : Tp K H v' a) (q : Q (.bl false) H) : rNeD K v v' H Q := by
  refine ⟨_, _, h.dp, h'.dp, shaped_ints _, shaped_ints _, ?_⟩
  rw [eqv_ints, decide_eq_true rfl]
  exact q
theorem ne_nil {K : PySem.W.Frag} {H : Hp} {p p' : Addr} {Q : VK} (h : H p = some (.lst [])) (h' : H p' = some (.lst [])) (q : Q (.bl false) H) : rNeD K (.ref p) (.ref p') H Q :=
  ⟨.list [], .list [], dp_list h .nil, dp_list h' .nil, by decide, by decide, q⟩
theorem kn_len {pts : List (List Int)} {S : Nat} (h : Sec pts S) : pts.length ≤ 100000 := by have := h.eight; omega
theorem ne_bool {b c : Bool} {R : Bool → Prop} (e : b = c) (q : R false) : ∃ k, V.bl (!decide (V.bl b = V.bl c)) = V.bl k ∧ R k := ⟨false, congrArg V.bl (by subst e; rw [decide_eq_true rfl]; rfl), q⟩
theorem cK_fr {k : Nat} {f : List Int} {t e : Int} (B : FrL (2 ^ 10) f t e) : ∃ u d, FrL (2 ^ 20) (cK k f) u d := by
  unfold cK
  split
  · rw [B.eq]
    have h1 : (t * t).natAbs ≤ 2 ^ 20 := by rw [Int.natAbs_mul]; exact Nat.le_trans (Nat.mul_le_mul B.bt B.bt) (by decide)
    have h2 : (e * e).natAbs ≤ 2 ^ 20 := by rw [Int.natAbs_mul]; exact Nat.le_trans (Nat.mul_le_mul B.bb B.bb) (by decide)
    obtain ⟨_, p, r, _, _, _, A⟩ := fr_thin (Int.mul_pos B.pos B.pos) h1 h2
    exact ⟨p, r, A⟩
  · exact ⟨1, 1, rfl, by decide, by decide, by decide, by decide⟩
end K05

namespace Ur
open PySem L2 PyProof.Rows
/-- [x for x in f(..) if test], f's list new -/
theorem lcFx {K : PySem.W.Frag} {xs : List V} {tl te : TE} {tt : TT} {vs : List Nat} {j : Nat} {σ : L2.St} {H : Hp} {Q : VK} (f : V → Bool) (hx : ∀ R : VK, (∀ a H1, Same H H1 → H1 a = some (.lst xs) → R (.ref a) H1) → tl σ H R) (hz : xs.length ≤ 100000)
    (hw : ∀ x, wipe ((wipe σ vs).set j (some x)) vs = wipe σ vs)
    (ht : ∀ (i : Nat) (x : V) (H3 : Hp), xs[i]? = some x → Same H H3 → ∀ Q' : Bool → Hp → Prop, (∀ H4, Same H3 H4 → Q' (f x) H4) → tt ((wipe σ vs).set j (some x)) H3 Q')
    (he : ∀ (i : Nat) (x : V) (H3 : Hp), xs[i]? = some x → Same H H3 → ∀ Q' : VK, Q' x H3 → te ((wipe σ vs).set j (some x)) H3 Q')
    (hq : ∀ D H', Same H H' → H' D = some (.lst (xs.filter f)) → Q (.ref D) H') : tLc (iList K tl) (gName j) tt te vs σ H Q := by
  refine hx _ fun a H1 s1 ha => ⟨a, rfl, ⟨xs, SqL.of ha⟩, fun D hD => ?_⟩
  refine lc_list (xs := xs) (Kept H1 xs f D) ⟨hD, same_new hD, upd_same⟩ (fun i H' _ m => m.same.seq (SqL.of ha)) (fun i x H' hi m => ⟨hw x, ?_⟩) (fun H' m => hq D H' (s1.trans m.same) (by have := m.held; rwa [List.take_length] at this))
  have hl := (List.getElem?_eq_some_iff.mp hi).1
  have e1 : xs.take (i + 1) = xs.take i ++ [x] := by
    obtain ⟨_, rfl⟩ := List.getElem?_eq_some_iff.mp hi
    exact List.take_succ_eq_append_getElem hl
  refine ht i x H' hi (s1.trans m.same) _ fun H4 s4 => ?_
  cases hf : f x with
  | true =>
    rw [if_pos rfl]
    refine he i x H4 hi (s1.trans (m.same.trans s4)) _ ⟨_, s4 _ _ m.held, ?_, m.new, same_own (m.same.trans s4) m.new, ?_⟩
    · have := List.length_filter_le f (xs.take i)
      rw [List.length_take] at this
      exact Nat.lt_of_lt_of_le (by omega : _ < 100001) (by decide)
    · rw [upd_same, e1, List.filter_append, List.filter_cons, if_pos hf]
      rfl
  | false =>
    rw [if_neg
          Bool.false_ne_true]
    refine ⟨m.new, m.same.trans s4, ?_⟩
    rw [e1, List.filter_append, List.filter_cons, if_neg (by rw [hf]; decide)]
    show _ = some (HO.lst (_ ++ []))
    rw [List.append_nil]
    exact s4 _ _ m.held
theorem shaped_il (ns : List Int) : SeqAt.shaped (.list (ns.map PyData.int)) = true := by
  unfold SeqAt.shaped
  show (PyData.canLayAll0 (ns.map PyData.int) && decide (PyData.depthAll (ns.map PyData.int) + 1 ≤ 64)) = true
  rw [lay_ints, depth_ints]
  rfl
theorem any_int (k : Int) : ∀ ns : List Int, ((ns.map PyData.int).any fun z => PyData.eqv z (.int k)) = ns.contains k
  | [] => rfl
  | a :: r => by
    rw [List.map_cons, List.any_cons, any_int k r, List.contains_cons]
    have : PyData.eqv (.int a) (.int k) = (k == a) := by
      show decide (a = k) = (k == a)
      by_cases c : a = k
      · rw [decide_eq_true c, c]; simp
      · rw [decide_eq_false c]
        have : ¬ k = a := fun e => c e.symm
        simp [this]
    rw [this]
theorem in_ints {K : PySem.W.Frag} {H : Hp} {l : Addr} {k : Int} {ns : List Int} {Q : VK} (h : H l = some (.lst (ns.map V.int))) (q : Q (.bl (ns.contains k)) H) : rInD K (.int k) (.ref l) H Q :=
  ⟨.int k, _, .int k, dp_list h (dpAll_ints ns), rfl, shaped_il ns, by rw [any_int]; exact q⟩
theorem eq_nil_ints {K : PySem.W.Frag} {H : Hp} {l m : Addr} {ns : List Int} {Q : VK} (h : H l = some (.lst (ns.map V.int))) (h' : H m = some (.lst [])) (q : Q (.bl ns.isEmpty) H) : rEqD K (.ref l) (.ref m) H Q := by
  refine ⟨_, .list [], dp_list h (dpAll_ints ns), dp_list h' .nil, shaped_il ns, rfl, ?_⟩
  have e : PyData.eqv (.list (ns.map PyData.int)) (.list []) = ns.isEmpty := by
    cases ns <;> rfl
  rw [e]
  exact q
end Ur
namespace K05
open PySem L2 Ur Hull
abbrev sLNext : Stmt := top 44
abbrev sLEdge : Stmt := top 45
/-- the index behind, the index before -/
def nx (n k : Nat) : Nat := (k + 1) % n
def pr (n k : Nat) : Nat := (k + n - 1) % n
abbrev ptA (pts : List (List Int)) (k : Nat) : List Int := pts.getD k []
def edL (pts : List (List Int)) (k : Nat) : List Int := wayL (ptA pts k) (ptA pts (nx pts.length k))
def atL (pts : List (List Int)) (k : Nat) (f : List Int) : List Int := sumL (ptA pts k) (byL (edL pts k) f)
/-- a share: a fraction from 0 on, below 1 -/
structure Shr (f : List Int) (t e : Int) : Prop where
  fr : FrL 10 f t e
  t0 : 0 ≤ t
  t1 : t < e
/-- a told rim point -/
def En (K : PySem.W.Frag) (H : Hp) (v : V) (k : Nat) (f : List Int) : Prop := ∃ (t : Addr) (w : V), v = .ref t ∧ SqT K H t [.int (k : Nat), w] ∧ Tp K H w f
theorem En.same {K : PySem.W.Frag} {H H' : Hp} {v : V} {k : Nat} {f : List Int} (s : Same H H') (h : En K H v k f) : En K H' v k f := by
  obtain ⟨t, w, e, q, a⟩ := h
  exact ⟨t, w, e, same_sqT s q, a.same s⟩
def Ln (K : PySem.W.Frag) (H : Hp) (v : V) (a : Nat) (f : List Int) (b : Nat) (g : List Int) : Prop := ∃ (t : Addr) (x y : V), v = .ref t ∧ SqT K H t [x, y] ∧ En K H x a f ∧ En K H y b g
theorem Ln.same {K : PySem.W.Frag} {H H' : Hp} {v : V} {a b : Nat} {f g : List Int} (s : Same H H') (h : Ln K H v a f b g) : Ln K H' v a f b g := by
  obtain ⟨t, x, y, e, q, u, w⟩ := h
  exact ⟨t, x, y, e, same_sqT s q, u.same s, w.same s⟩
/-- the edges on which a rim point lies -/
def tch (n k : Nat) (t : Int) : List Nat := if t = 0 then [k, pr n k] else [k]
def isLn (n a : Nat) (t : Int) (b : Nat) (u : Int) : Bool := (tch n a t).all fun k => !(tch n b u).contains k
def spNext (K : PySem.W.Frag) : Sp := fun vs H Q _ => ∃ (t : Addr) (k : Nat) (xs : List V), vs = [.ref t, .int (k : Nat)] ∧ SqT K H t xs ∧ k < xs.length ∧ xs.length ≤ 1000 ∧ Q (.int (nx xs.length k : Nat)) H
def spEdge (K : PySem.W.Frag) : Sp := fun vs H Q _ => ∃ (v : V) (k : Nat) (xs : List V) (pts : List (List Int)) (S : Nat), vs = [v, .int (k : Nat)] ∧ SecV K H v xs pts S ∧ Tny pts S ∧ k < pts.length ∧ ∀ p H', Same H H' → Tp K H' p (edL pts k) → Q p H'
def spAt (K : PySem.W.Frag) : Sp := fun vs H Q _ => ∃ (v z : V) (k : Nat) (f : List Int) (t e : Int) (xs : List V) (pts : List (List Int)) (S : Nat), vs = [v, z] ∧ SecV K H v xs pts S ∧ Tny pts S ∧ En K H z k f ∧ Shr f t e ∧ k < pts.length ∧ ∀ p H', Same H H' → Tp K H' p (atL pts k f) → Q p H'
def spPart (K : PySem.W.Frag) : Sp := fun vs H Q _ => ∃ (u : Addr), vs = [.ref u] ∧ H u = some (UrnO u) ∧ ∀ (p : V) (f : List Int) (t e : Int) H', Same H H' → Tp K H' p f → Shr f t e → Q p H'
def spEnd (K : PySem.W.Frag) : Sp := fun vs H Q _ => ∃ (u : Addr) (v : V) (xs : List V) (pts : List (List Int)) (S : Nat), vs = [.ref u, v] ∧ H u = some (UrnO u) ∧ SecV K H v xs pts S ∧ ∀ (p : V) (k : Nat) (f : List Int) (t e : Int) H', Same H H' → En K H' p k f → k < pts.length → Shr f t e → Q p H'
def spTouched (K : PySem.W.Frag) : Sp := fun vs H Q _ => ∃ (v z : V) (k : Nat) (f : List Int) (t e : Int) (xs : List V) (pts : List (List Int)) (S : Nat), vs = [v, z] ∧ SecV K H v xs pts S ∧ En K H z k f ∧ Shr f t e ∧ k < pts.length ∧ ∀ (l : Addr) H', Same H H' → H' l = some (.lst ((tch pts.length k t).map fun i => V.int (i : Nat))) → Q (.ref l) H'
def spIsLine (K : PySem.W.Frag) : Sp := fun vs H Q _ => ∃ (v z : V) (a b : Nat) (f g : List Int) (t e t' e' : Int) (xs : List V) (pts : List (List Int)) (S : Nat), vs = [v, z] ∧ SecV K H v xs pts S ∧ Ln K H z a f b g ∧ Shr f t e ∧ Shr g t' e' ∧ a < pts.length ∧ b < pts.length ∧ ∀ H', Same H H' → Q (.bl (isLn pts.length a t b t')) H'
theorem sec_lens {K : PySem.W.Frag} {H : Hp} {v : V} {xs : List V} {pts : List (List Int)} {S : Nat} (h : SecV K H v xs pts S) : xs.length = pts.length ∧ 3 ≤ pts.length ∧ pts.length ≤ 8 := ⟨h.al.len, h.sec.three, h.sec.eight⟩
theorem WB30 : 2 ^ 30 ≤ WB := pwb (by decide)
theorem Shr.up {f : List Int} {t e : Int} (h : Shr f t e) : FrL (2 ^ 10) f t e := ⟨h.fr.eq, h.fr.pos, h.fr.red, Nat.le_trans h.fr.bt (by decide), Nat.le_trans h.fr.bb (by decide)⟩
theorem nx_lt {n k : Nat} (h : k < n) : nx n k < n := Nat.mod_lt _ (by omega)
theorem ptA_at {pts : List (List Int)} {k : Nat} (h : k < pts.length) : pts[k]? = some (ptA pts k) := by
  show _ = some (pts.getD k [])
  rw [List.getD_eq_getElem?_getD, List.getElem?_eq_getElem h]
  rfl
theorem ptA_ok {pts : List (List Int)} {S k : Nat} (hT : Tny pts S) (h : k < pts.length) : Pt3 100 (ptA pts k) := hT.ok _ (List.mem_of_getElem? (ptA_at h))
theorem ed_pt {pts : List (List Int)} {S k : Nat} (hT : Tny pts S) (h : k < pts.length) : ∃ X Y W, PtL (2 ^ 15) (edL pts k) X Y W := by
  obtain ⟨x, y, w, A⟩ := ptA_ok hT h
  obtain ⟨u, v, z, B⟩ := ptA_ok hT (nx_lt h)
  obtain ⟨_, _, _, _, _, _, _, _, Z⟩ := pt_way A B
  exact ⟨_, _, _, Z.up (by decide)⟩
theorem at_by {pts : List (List Int)} {S k : Nat} {f : List Int} {t e : Int} (hT : Tny pts S) (h : k < pts.length) (F : Shr f t e) : ∃ X Y W, PtL (2 ^ 19) (byL (edL pts k) f) X Y W := by
  obtain ⟨x, y, w, A⟩ := ed_pt hT h
  obtain ⟨_, _, _, _, _, _, _, _, Z⟩ := pt_by A F.fr
  exact ⟨_, _, _, Z.up (by decide)⟩
theorem at_pt {pts : List (List Int)} {S k : Nat} {f : List Int} {t e : Int} (hT : Tny pts S) (h : k < pts.length) (F : Shr f t e) : ∃ X Y W, PtL (2 ^ 30) (atL pts k f) X Y W := by
  obtain ⟨x, y, w, A⟩ := ptA_ok hT h
  obtain ⟨u, v, z, B⟩ := at_by hT h F
  obtain ⟨_, _, _, _, _, _, _, _, Z⟩ := pt_sum A B
  exact ⟨_, _, _, Z.up (by decide)⟩
/-- a corner told -/
theorem SecV.cor {K : PySem.W.Frag} {H : Hp} {v : V} {xs : List V} {pts : List (List Int)} {S : Nat} (h : SecV K H v xs pts S) {k : Nat} (hk : k < pts.length) : ∃ x, xs[k]? = some x ∧ Tp K H x (ptA pts k) := h.al.at2 (ptA_at hk)
section
variable {P' : Program} {w : World} {K :
      PySem.W.Frag} {mg : Str → Option Value} {base : Heap}
abbrev p_pk : List Str := ["_law_plate_here", "_law_k"]
theorem sc_lnext : FnScope p_pk p_pk (defScope sLNext) := ⟨rfl, rfl, rfl, by decide +kernel, rfl, by decide +kernel, by decide +kernel⟩
theorem ok_lnext {f : Addr} {fd : FuncData} (F : Fun K "_law_next" "_law_next" sLNext f fd) (T : Bl mg) : FnOk P' w K mg base CX0 1 f fd p_pk (spNext K) := by
  refine F.ok sc_lnext (fun vs H Q E h => ?_) (fun cdv A outer s H vs Q E hr h => ?_)
  · obtain ⟨_, _, _, rfl, _⟩ := h
    rfl
  · obtain ⟨t, k, xs, rfl, hS, hk, h1, q⟩ := h
    refine ⟨_, (pss_one (ps_ret (pe_op op_mod (pe_callTy call_int1 (by rfl) T.int PyProof.Rows.boot_int (pa_cons (pe_op op_add (pv 1) pe_int) pa_nil)) (pe_callB (r := Ur.rLen K) Ur.len_seq (by rfl) T.len PySem.boot_len (pa_cons (pv 0) pa_nil))))), ?_⟩
    refine ⟨_, rfl, _, _, rfl, rfl, Or.inl ⟨_, rfl, ?_⟩⟩
    refine ⟨_, rfl, t, xs, rfl, Or.inr hS, _, _, rfl, rfl, by omega, ?_⟩
    have e : ((k : Nat) : Int) + 1 = ((k + 1 : Nat) : Int) := by omega
    show Q (V.int ((((k : Nat) : Int) + 1) % ((xs.length : Nat) : Int))) H
    rw [e, ← Int.natCast_emod]
    exact q
theorem sc_ledge : FnScope p_pk p_pk (defScope sLEdge) := ⟨rfl, rfl, rfl, by decide +kernel, rfl, by decide +kernel, by decide +kernel⟩
theorem ok_ledge {f : Addr} {fd : FuncData} (F : Fun K "_law_edge" "_law_edge" sLEdge f fd) (H_law_way : Has P' w K mg base "_law_way" p_lway 4 (spP2 K wayL)) (H_law_next : Has P' w K mg base "_law_next" p_pk 1 (spNext K)) : FnOk P' w K mg base CX0 5 f fd p_pk (spEdge K) := by
  refine F.ok sc_ledge (fun vs H Q E h => ?_) (fun cdv A outer s H vs Q E hr h => ?_)
  · obtain ⟨_, _, _, _, _, rfl, _⟩ := h
    rfl
  · obtain ⟨v, k, xs, pts, S, rfl, hV, hT, hk, q⟩ := h
    refine ⟨_, (pss_one (ps_ret (pe_has H_law_way (hr.mono (by decide)) (by rfl) (pa_cons (pe_ix (r := rIxT K) ix_tup (pv 0) (pv 1) (fun _ _ => rfl)) (pa_cons (pe_ix (r := rIxT K) ix_tup (pv 0) (pe_has H_law_next (hr.mono (by decide)) (by rfl) (pa_cons (pv 0) (pa_cons (pv 1) pa_nil))) (fun _ _ => rfl)) pa_nil))))), ?_⟩
    obtain ⟨tp, rfl, hS⟩ := hV.ref
    obtain ⟨hl, h3, h8⟩ := sec_lens hV
    obtain ⟨x, hx, tx⟩ := hV.cor hk
    obtain ⟨y, hy, ty⟩ := hV.cor (nx_lt hk)
    obtain ⟨X, Y, W, C⟩ := ptA_ok hT hk
    obtain ⟨X', Y', W', D⟩ := ptA_ok hT (nx_lt hk)
    have w1 : 100 ≤ WB := Nat.le_trans (by decide : 100 ≤ 2 ^ 7) (pwb (by decide))
    refine ⟨_, rfl, _, rfl, tp, xs, _, x, rfl, rfl, hS, atI_nat hx, ?_⟩
    refine ⟨_, rfl, _, rfl, _, rfl, tp, k, xs, rfl, hS, by omega, by omega, ?_⟩
    rw [← hl] at hy
    refine ⟨tp, xs, _, y, rfl, rfl, hS, atI_nat hy, ?_⟩
    exact ⟨x, y, _, _, X, Y, W, X', Y', W', 100, 100, rfl, tx, ty, C, D, w1, w1, fun p H' s' tp' => q p H' s' tp'⟩
abbrev p_pe : List Str := ["_law_plate_here", "_law_end_here"]
abbrev n_lpart : List Str := ["_law_urn_here", "_law_below"]
abbrev p_urn : List Str := ["_law_urn_here"]
abbrev p_urp : List Str := ["_law_urn_here", "_law_plate_here"]
abbrev p_pl : List Str := ["_law_plate_here", "_law_line_here"]
abbrev n_pl : List Str := ["_law_plate_here", "_law_line_here", "_law_k"]
end
end K05
namespace K05
open PySem L2 Ur Hull
def dist (n a b : Nat) : Nat := (b + n - a) % n
def corL (pts : List (List Int)) (a m : Nat) : List (List Int) := (List.range m).map fun i => ptA pts ((a + 1 + i) % pts.length)
def wetL (pts : List (List Int)) (a : Nat) (f : List Int) (b : Nat) (u : Int) (g : List Int) : List (List Int) := atL pts a f :: (corL pts a (dist pts.length a b) ++ if u = 0 then [] else [atL pts b g])
theorem mod2 {n x : Nat} (h : x < 2 * n) : x % n = if x < n then x else x - n := by
  by_cases c : x < n
  · rw [if_pos c, Nat.mod_eq_of_lt c]
  · rw [if_neg c, Nat.mod_eq_sub_mod (by omega), Nat.mod_eq_of_lt (by omega)]
theorem dist_is {n a b : Nat} (ha : a < n) (hb : b < n) : dist n a b = if a ≤ b then b - a else b + n - a := by
  unfold dist
  rw [mod2 (by omega)]
  by_cases c : a ≤ b
  · rw [if_pos c]
    by_cases d : b + n - a < n
    · omega
    · rw [if_neg d]; omega
  · rw [if_neg c, if_pos (by omega)]
theorem pr_is {n k : Nat} (h : k < n) : pr n k = if k = 0 then n - 1 else k - 1 := by
  unfold pr
  rw [mod2 (by omega)]
  by_cases c : k = 0
  · rw [if_pos c, if_pos (by omega)]; omega
  · rw [if_neg c, if_neg (by omega)]; omega
theorem dist_end {n a b : Nat} (ha : a < n) (hb : b < n) : (a + dist n a b) % n = b := by
  rw [dist_is ha hb]
  by_cases c : a ≤ b
  · rw [if_pos c, show a + (b - a) = b by omega, Nat.mod_eq_of_lt hb]
  · rw [if_neg c, mod2 (by omega), if_neg (by omega)]; omega
theorem dist_lt {n a b : Nat} (ha : a < n) (hb : b < n) (hab : a ≠ b) : 1 ≤ dist n a b ∧ dist n a b < n := by
  rw [dist_is ha hb]
  by_cases c : a ≤ b
  · rw [if_pos c]; omega
  · rw [if_neg c]; omega
theorem dist_not {n a b i : Nat} (ha : a < n) (hb : b < n) (h : i < dist n a b) : (a + i) % n ≠ b := by
  rw [dist_is ha hb] at h
  have hi : i < n := by split at h <;> omega
  rw [mod2 (by omega)]
  by_cases c : a ≤ b
  · rw [if_pos c] at h
    split <;> omega
  · rw [if_neg c] at h
    split <;> omega
theorem isLn_facts {n a b : Nat} {t u : Int} (h : isLn n a t b u = true) : a ≠ b ∧ (u = 0 → a ≠ pr n b) ∧ (t = 0 → pr n a ≠ b) := by
  unfold isLn at h
  rw [List.all_eq_true] at h
  have ma : a ∈ tch n a t := by unfold tch; split <;> simp
  have mb : b ∈ tch n b u := by unfold tch; split <;> simp
  have no : ∀ k, k ∈ tch n a t → ¬ k ∈ tch n b u := fun k hk hk' => by
    have := h k hk
    rw [List.contains_iff_mem.mpr hk'] at this
    exact absurd this (by decide)
  refine ⟨fun e => no a ma (e ▸ mb), fun u0 e => no a ma ?_, fun t0 e => no b ?_ mb⟩
  · unfold tch
    rw [if_pos u0]
    simp [e]
  · unfold tch
    rw [if_pos t0]
    simp [e]
theorem tp_own {K : PySem.W.Frag} {H : Hp} {D : Addr} {l : List V} {o : HO} {y : V} {p : List Int} (hD : H D = some (.lst l)) (h : Tp K H y p) : Tp K (upd H D o) y p := by
  obtain ⟨t, e, h⟩ := h
  refine ⟨t, e, ?_⟩
  have keep : ∀ (o' : HO), H t = some o' → t ≠ D → upd H D o t = some o' := fun o' h ne => by rw [upd_ne ne]; exact h
  rcases h with (h | ⟨o', h⟩) | h
  · exact Or.inl (Or.inl (keep _ h (fun z => by rw [z, hD] at h; cases h)))
  · exact Or.inl (Or.inr ⟨o', keep _ h (fun z => by rw [z, hD] at h; cases h)⟩)
  · exact Or.inr h
theorem corL_next {pts : List (List Int)} {a i : Nat} : corL pts a (i + 1) = corL pts a i ++ [ptA pts ((a + 1 + i) % pts.length)] := by
  unfold corL
  rw [List.range_succ, List.map_append]
  rfl
theorem Al.push {α : Type} {R : V → α → Prop} {ys : List V} {ps : List α} {y : V} {p : α} (h : Al R ys ps) (k : R y p) : Al R (ys ++ [y]) (ps ++ [p]) := by
  have hl := h.len
  refine ⟨by simp [hl], fun i z q a b => ?_⟩
  by_cases hi : i < ys.length
  · rw [List.getElem?_append_left hi] at a
    rw [List.getElem?_append_left (by omega)] at b
    exact h.at_ i z q a b
  · rw [List.getElem?_append_right (by omega)] at a
    rw [List.getElem?_append_right (by omega), ← hl] at b
    generalize i - ys.length = j at a b
    cases j with
    | zero => cases a; cases b; exact k
    | succ j => cases a
theorem Al.last {α : Type} {R : V → α → Prop} {ys : List V} {ps : List α} {p : α} (h : Al R ys (ps ++ [p])) : ∃ ys' y, ys = ys' ++ [y] ∧ R y p := by
  have hl := h.len
  rw [List.length_append,
        List.length_singleton] at hl
  have hne : ys ≠ [] := fun e => by rw [e] at hl; simp at hl
  refine ⟨ys.dropLast, ys.getLast hne, (List.dropLast_concat_getLast hne).symm, ?_⟩
  refine h.at_ ps.length _ p ?_ (by rw [List.getElem?_append_right (Nat.le_refl _), Nat.sub_self]; rfl)
  rw [← List.getLast?_eq_some_getLast hne, List.getLast?_eq_getElem?, hl, Nat.add_sub_cancel]
theorem ptA_pk {pts : List (List Int)} {S k : Nat} (h : Sec pts S) (hk : k < pts.length) : Pk S (ptA pts k) := h.pks _ (List.mem_of_getElem? (ptA_at hk))
/-- the point of a rim point, over S times the share's lower number -/
theorem at_q {pts : List (List Int)} {S k : Nat} {f : List Int} {t e : Int} (h : Sec pts S) (hk : k < pts.length) (F : Shr f t e) : Q3 (atL pts k f) (lin (e - t) t (fsc S (ptA pts k)) (fsc S (ptA pts (nx pts.length k)))).1 (lin (e - t) t (fsc S (ptA pts k)) (fsc S (ptA pts (nx pts.length k)))).2 (S * e) := by
  have h0 := h.pol.scb.s0
  have hS : (0 : Int) < S := by omega
  have p1 := ptA_pk h hk
  have p2 := ptA_pk h (nx_lt hk)
  have z := (Q3.of_pk h0 p1).sum ((way_q h0 p1 p2).by_ (Q2.of_fr F.fr))
  exact z.sc (k := (S : Int)) hS (by unfold lin; grind) (by unfold lin; grind) (by grind)
theorem nth_map {pts : List (List Int)} {S k : Nat} (hk : k < pts.length) : nthP (pts.map (fsc S)) k = fsc S (ptA pts k) := by
  show List.getD _ _ _ = _
  rw [List.getD_eq_getElem?_getD, List.getElem?_map, ptA_at hk]
  rfl
theorem nx_ne {n k : Nat} (h : k < n) (h2 : 2 ≤ n) : nx n k ≠ k := by
  unfold nx
  rw [mod2 (by omega)]
  split <;> omega
theorem Sec.apart {pts : List (List Int)} {S i j : Nat} (h : Sec pts S) (hi : i < pts.length) (hj : j < pts.length) (e : fsc S (ptA pts i) = fsc S (ptA pts j)) : i = j := by
  have hn := h.tri.2
  have li : i < (pts.map (fsc S)).length := by rw [List.length_map]; exact hi
  have lj : j < (pts.map (fsc S)).length := by rw [List.length_map]; exact hj
  have e1 : (pts.map (fsc S))[i]? = (pts.map (fsc S))[j]? := by
    rw [List.getElem?_map, List.getElem?_map, ptA_at hi, ptA_at hj]
    exact congrArg some e
  exact (List.getElem?_inj li hn).mp e1
theorem at_corner {pts : List (List Int)} {S k : Nat} {f : List Int} {t e : Int} (h : Sec pts S) (hk : k < pts.length) (F : Shr f t e) : ptA pts k = atL pts k f ↔ t = 0 := by
  have h0 := h.pol.scb.s0
  have hS : (0 : Int) < S := by omega
  have he := F.fr.pos
  have z := at_q h hk F
  have c := (Q3.of_pk h0 (ptA_pk h hk)).up he rfl rfl (Int.mul_comm (S : Int) e)
  have ew : (S : Int) * e = ((S * e.toNat : Nat) : Int) := by rw [Int.natCast_mul, Int.toNat_of_nonneg (by omega)]
  constructor
  · intro ee
    rw [ee, ew] at c
    rw [ew] at z
    have e1 := z.fsc.1.symm.trans c.fsc.1
    have e2 : (e - t) * (fsc S (ptA pts k)).1 + t * (fsc S (ptA pts (nx pts.length k))).1 = e * (fsc S (atL pts k f)).1 := congrArg Prod.fst e1
    have e3 : (e - t) * (fsc S (ptA pts k)).2 + t * (fsc S (ptA pts (nx pts.length k))).2 = e * (fsc S (atL pts k f)).2 := congrArg Prod.snd e1
    rw [← ee] at e2 e3
    by_cases c0 : t = 0
    · exact c0
    · have n2 := h.three
      refine absurd (h.apart (nx_lt hk) hk ?_) (nx_ne hk (by omega))
      have d1 : t * (fsc S (ptA pts (nx pts.length k))).1 = t * (fsc S (ptA pts k)).1 := by grind
      have d2 : t * (fsc S (ptA pts (nx pts.length k))).2 = t * (fsc S (ptA pts k)).2 := by grind
      exact Prod.ext (Int.eq_of_mul_eq_mul_left c0 d1) (Int.eq_of_mul_eq_mul_left c0 d2)
  · intro t0
    subst t0
    refine c.same ?_
    have l1 : (lin (e - 0) 0 (fsc S (ptA pts k)) (fsc S (ptA pts (nx pts.length k)))).1 = e * (fsc S (ptA pts k)).1 := by unfold lin; simp only; grind
    have l2 : (lin (e - 0) 0 (fsc S (ptA pts k)) (fsc S (ptA pts (nx pts.length k)))).2 = e * (fsc S (ptA pts k)).2 := by unfold lin; simp only; grind
    rw [l1, l2] at z
    exact z
def spLineAny (K : PySem.W.Frag) : Sp := fun vs H Q _ => ∃ (u : Addr) (v : V) (xs : List V) (pts : List (List Int)) (S : Nat), vs = [.ref u, v] ∧ H u = some (UrnO u) ∧ SecV K H v xs pts S ∧ ∀ (p : V) (a b : Nat) (f g : List Int) (t e t' e' : Int) H', Same H H' → Ln K H' p a f b g → a < pts.length → b < pts.length → Shr f t e → Shr g t' e' → isLn pts.length a t b t' = true → Q p H'
def spWet (K : PySem.W.Frag) : Sp := fun vs H Q _ => ∃ (v z : V) (a b : Nat) (f g : List Int) (t e t' e' : Int) (xs : List V) (pts : List (List Int)) (S : Nat), vs = [v, z] ∧ SecV K H v xs pts S ∧ Tny pts S ∧ Ln K H z a f b g ∧ Shr f t e ∧ Shr g t' e' ∧ a < pts.length ∧ b < pts.length ∧ isLn pts.length a t b t' = true ∧
  ∀ (l : Addr) (ys : List V) H', Same H H' → H' l = some (.lst ys) → Al (Tp K H') ys (wetL pts a f b t' g) → Q (.ref l) H'
section
variable {P' : Program} {w : World} {K :
      PySem.W.Frag} {mg : Str → Option Value} {base : Heap}
abbrev n_lline : List Str := ["_law_urn_here", "_law_plate_here", "_law_step", "_law_line_here"]
abbrev n_lwet : List Str := ["_law_plate_here", "_law_line_here", "_law_spots", "_law_k", "_law_step", "_law_goal"]
end
end K05
namespace K05
open PySem L2 Ur Hull
/-- a row begun elsewhere -/
theorem rot_row {l : List P} {j : Nat} (hj : j < l.length) : ((List.range l.length).map fun i => nthP l ((j + i) % l.length)) = l.drop j ++ l.take j := by
  refine List.ext_getElem? fun i => ?_
  rw [List.getElem?_map]
  by_cases hi : i < l.length
  · rw [List.getElem?_range hi]
    show some (l.getD ((j + i) % l.length) (0, 0)) = _
    have hm : (j + i) % l.length < l.length := Nat.mod_lt _ (by omega)
    rw [List.getD_eq_getElem?_getD, List.getElem?_eq_getElem hm]
    show some (l[(j + i) % l.length]) = _
    rw [← List.getElem?_eq_getElem hm, mod2 (by omega)]
    by_cases c : j + i < l.length
    · rw [if_pos c, List.getElem?_append_left (by rw [List.length_drop]; omega), List.getElem?_drop]
    · rw [if_neg c, List.getElem?_append_right (by rw [List.length_drop]; omega), List.length_drop, List.getElem?_take, if_pos (by omega)]
      congr 1
      omega
  · rw [List.getElem?_eq_none (by rw [List.length_range]; omega), List.getElem?_eq_none (by rw [List.length_append, List.length_drop, List.length_take]; omega)]
    rfl
/-- corners a + 1 .. as points -/
def corP (l : List P) (a m : Nat) : List P := (List.range m).map fun i => nthP l ((a + 1 + i) % l.length)
theorem corL_sc {pts : List (List Int)} {S N a m : Nat} {k : Int} (h : Sec pts S) (hk : 0 < k) (hN : (N : Int) = S * k) : (corL pts a m).map (fsc N) = (corP (pts.map (fsc S)) a m).map (sc k) := by
  unfold corL corP
  rw [List.map_map,
        List.map_map]
  refine List.map_congr_left
        fun i _ => ?_
  have h3 := h.three
  have hm : (a + 1 + i) % pts.length < pts.length := Nat.mod_lt _ (by omega)
  show fsc N (ptA pts _) = sc k (nthP (pts.map (fsc S)) _)
  rw [List.length_map, nth_map hm]
  exact fsc_sc h.pol.scb.s0 hN (ptA_pk h hm)
theorem corP_app {l : List P} {a b m k : Nat} (hb : (a + m) % l.length = b) : corP l a m ++ corP l b k = corP l a (m + k) := by
  unfold corP
  rw [List.range_add, List.map_append, List.map_map]
  congr 1
  refine List.map_congr_left
        fun i _ => ?_
  show nthP l ((b + 1 + i) % l.length) = nthP l ((a + 1 + (m + i)) % l.length)
  congr 1
  rw [← hb, Nat.add_assoc, Nat.mod_add_mod]
  congr 1
  omega
theorem corP_all {l : List P} {a : Nat} (ha : a < l.length) : ∃ A B, l = A ++ B ∧ corP l a l.length = B ++ A := by
  unfold corP
  by_cases c : a + 1 < l.length
  · exact ⟨l.take (a + 1), l.drop (a + 1), (List.take_append_drop _ _).symm, rot_row c⟩
  · refine ⟨[], l, rfl, ?_⟩
    have e : ∀ i, (a + 1 + i) % l.length = (0 + i) % l.length := fun i => by
      have : a + 1 = l.length := by omega
      rw [this, Nat.add_mod_left, Nat.zero_add]
    have := rot_row (l := l) (j := 0) (by omega)
    rw [List.drop_zero, List.take_zero] at this
    rw [← this]
    exact List.map_congr_left fun i _ => by rw [e i]
theorem corP_first {l : List P} {a m : Nat} (hm : 1 ≤ m) : ∃ X', corP l a m = nthP l (nx l.length a) :: X' := by
  obtain ⟨m', rfl⟩ : ∃ m', m = m' + 1 := ⟨m - 1, by omega⟩
  unfold corP
  rw [List.range_succ_eq_map, List.map_cons]
  exact ⟨_, rfl⟩
theorem corP_last {l : List P} {a m : Nat} (hm : 1 ≤ m) : ∃ X', corP l a m = X' ++ [nthP l ((a + m) % l.length)] := by
  obtain ⟨m', rfl⟩ : ∃ m', m = m' + 1 := ⟨m - 1, by omega⟩
  unfold corP
  rw [List.range_succ, List.map_append]
  refine ⟨_, congrArg _ ?_⟩
  show [nthP l ((a + 1 + m') % l.length)] = _
  rw [show a + 1 + m' = a + (m' + 1) by omega]
theorem corP_len {l : List P} {a m : Nat} : (corP l a m).length = m := by unfold corP; rw [List.length_map, List.length_range]
theorem isLn_swap {n a b : Nat} {t u : Int} (h : isLn n a t b u = true) : isLn n b u a t = true := by
  unfold isLn at h ⊢
  rw [List.all_eq_true] at h ⊢
  intro k hk
  cases c : (tch n a t).contains k with
  | false => rfl
  | true =>
    have := h k (List.contains_iff_mem.mp c)
    rw [List.contains_iff_mem.mpr hk] at this
    exact absurd this (by decide)
theorem dist_both {n a b : Nat} (ha : a < n) (hb : b < n) (hab : a ≠ b) : dist n a b + dist n b a = n := by
  rw [dist_is ha hb, dist_is hb ha]
  split <;> split <;> omega
theorem nx_pr {n k : Nat} (h : k < n) : pr n (nx n k) = k := by
  rw [pr_is (nx_lt h)]
  unfold nx
  rw [mod2 (by omega)]
  split <;> split <;> omega
/-- a section cut by a stand -/
theorem cut_of {pts : List (List Int)} {S a b : Nat} {t e t' e' c1 c2 k : Int} (h : Sec pts S) (ha : a < pts.length) (hb : b < pts.length) (hl : isLn pts.length a t b t' = true) {f g : List Int} (F : Shr f t e) (G : Shr g t' e') (hc1 : 0 < c1) (hc2 : 0 < c2) (e1 : e * c1 = k) (e2 : e' * c2 = k) :
    Cut (corP (pts.map (fsc S)) a (dist pts.length a b)) (corP (pts.map (fsc S)) b (dist pts.length b a)) (nthP (pts.map (fsc S)) (nx pts.length a)) (nthP (pts.map (fsc S)) a) (nthP (pts.map (fsc S)) (nx pts.length b)) (nthP (pts.map (fsc S)) b) (c1 * (e - t)) (c1 * t) (c2 * (e' - t')) (c2 * t') k := by
  obtain ⟨neq, n1, n2⟩ := isLn_facts hl
  obtain ⟨d1, d2⟩ := dist_lt ha hb neq
  obtain ⟨d3, d4⟩ := dist_lt hb ha (Ne.symm neq)
  have db := dist_both ha hb neq
  have ll : (pts.map (fsc S)).length = pts.length := List.length_map ..
  have all := corP_app (l := pts.map (fsc S)) (a := a) (b := b) (m := dist pts.length a b) (k := dist pts.length b a) (by rw [ll]; exact dist_end ha hb)
  rw [db] at all
  have three := h.three
  have F0 := F.t0
  have F1 := F.t1
  have G0 := G.t0
  have G1 := G.t1
  refine ⟨?_, ?_, ?_, ?_, ?_, by rw [corP_len, corP_len]; omega, by rw [← e1]; grind, by rw [← e2]; grind, Int.mul_pos hc1 (by omega), Int.mul_nonneg (by omega) F0, Int.mul_pos hc2 (by omega), Int.mul_nonneg (by omega) G0, fun hx z => ?_, fun hy z => ?_⟩
  · have := corP_first (l := pts.map (fsc S)) (a := a) d1
    rw [ll] at this
    exact this
  · have := corP_last (l := pts.map (fsc S)) (a := a) d1
    rw [ll, dist_end ha hb] at this
    exact this
  · have := corP_first (l := pts.map (fsc S)) (a := b) d3
    rw [ll] at this
    exact this
  · have := corP_last (l := pts.map (fsc S)) (a := b) d3
    rw [ll, dist_end hb ha] at this
    exact this
  · rw [all, ← ll]
    obtain ⟨A, B, eA, eB⟩ := corP_all (l := pts.map (fsc S)) (a := a) (by rw [ll]; exact ha)
    rw [eB]
    have hT := h.tri.1
    rw [eA] at hT
    exact tri_rot hT
  · rw [corP_len] at hx
    have t0 : t' = 0 := by
      rcases Int.mul_eq_zero.mp z with r | r
      · omega
      · exact r
    have eb := dist_end ha hb
    rw [hx] at eb
    exact n1 t0 (by rw [← eb]; exact (nx_pr ha).symm)
  · rw [corP_len] at hy
    have t0 : t = 0 := by
      rcases Int.mul_eq_zero.mp z with r | r
      · omega
      · exact r
    have eb := dist_end hb ha
    rw [hy] at eb
    exact n2 t0 (by rw [← eb]; exact nx_pr hb)
/-- the whole row, from behind a corner on -/
theorem cut_cyc {pts : List (List Int)} {S a b : Nat} (h : Sec pts S) (ha : a < pts.length) (hb : b < pts.length) (neq : a ≠ b) (f : P → P → Int) : cyc f (corP (pts.map (fsc S)) a (dist pts.length a b) ++ corP (pts.map (fsc S)) b (dist pts.length b a)) = cyc f (pts.map (fsc S)) := by
  have ll : (pts.map (fsc S)).length = pts.length := List.length_map ..
  rw [corP_app (by rw [ll]; exact dist_end ha hb), dist_both ha hb neq]
  obtain ⟨A, B, eA, eB⟩ := corP_all (l := pts.map (fsc S)) (a := a) (by rw [ll]; exact ha)
  rw [ll] at eB
  rw [eB, eA]
  exact cyc_rot f B A
/-- a rim point on the scale -/
theorem at_sc {pts : List (List Int)} {S N k : Nat} {f : List Int} {t e c κ : Int} (h : Sec pts S) (hk : k < pts.length) (F : Shr f t e) (hc : 0 < c) (ek : e * c = κ) (hN : (N : Int) = S * κ) : Q3 (atL pts k f) (lin (c * (e - t)) (c * t) (nthP (pts.map (fsc S)) k) (nthP (pts.map (fsc S)) (nx pts.length k))).1 (lin (c * (e - t)) (c * t) (nthP (pts.map (fsc S)) k) (nthP (pts.map (fsc S)) (nx pts.length k))).2 (N : Int) := by
  have z := at_q h hk F
  rw [nth_map hk, nth_map (nx_lt hk)]
  exact z.up hc (by unfold lin; simp only; grind) (by unfold lin; simp only; grind) (by rw [hN, ← ek]; grind)
theorem at_pk {pts : List (List Int)} {S N k : Nat} {f : List Int} {t e c κ : Int} (h : Sec pts S) (hT : Tny pts S) (hk : k < pts.length) (F : Shr f t e) (hc : 0 < c) (ek : e * c = κ) (hN : (N : Int) = S * κ) : Pk N (atL pts k f) := by
  obtain ⟨X, Y, W, A⟩ := at_pt hT hk F
  exact ⟨⟨X, Y, W, A.up (le_cb (Nat.le_refl _) (by decide))⟩, (at_sc h hk F hc ek hN).fsc.2⟩
/-- the wet row on the scale -/
theorem wet_sc {pts : List (List Int)} {S N a b : Nat} {t e t' e' c1 c2 κ : Int} (h : Sec pts S) (ha : a < pts.length) (hb : b < pts.length) {f g : List Int} (F : Shr f t e) (G : Shr g t' e') (hc1 : 0 < c1) (hc2 : 0 < c2) (e1 : e * c1 = κ) (e2 : e' * c2 = κ) (hN : (N : Int) = S * κ) :
    (wetL pts a f b t' g).map (fsc N) = wetR (corP (pts.map (fsc S)) a (dist pts.length a b)) (nthP (pts.map (fsc S)) (nx pts.length a)) (nthP (pts.map (fsc S)) a) (nthP (pts.map (fsc S)) (nx pts.length b)) (nthP (pts.map (fsc S)) b) (c1 * (e - t)) (c1 * t) (c2 * (e' - t')) (c2 * t') κ := by
  have hk : 0 < κ := by rw [← e1]; exact Int.mul_pos F.fr.pos hc1
  have q1 := (at_sc h ha F hc1 e1 hN).fsc.1
  have q2 := (at_sc h hb G hc2 e2 hN).fsc.1
  have z : (c2 * t' = 0) ↔ t' = 0 := by
    constructor
    · intro z
      rcases Int.mul_eq_zero.mp z with r | r
      · omega
      · exact r
    · intro z
      rw [z, Int.mul_zero]
  unfold wetL wetR
  rw [List.map_cons, List.map_append, corL_sc h hk hN, q1]
  by_cases c : t' = 0
  · rw [if_pos c, if_pos (z.mpr c)]
    rfl
  · rw [if_neg c, if_neg (fun y => c (z.mp y)), List.map_cons, List.map_nil, q2]
theorem wet_pk {pts : List (List Int)} {S N a b : Nat} {t e t' e' c1 c2 κ : Int} (h : Sec pts S) (hT : Tny pts S) (ha : a < pts.length) (hb : b < pts.length) {f g : List Int} (F : Shr f t e) (G : Shr g t' e') (hc1 : 0 < c1) (hc2 : 0 < c2) (e1 : e * c1 = κ) (e2 : e' * c2 = κ) (hN : (N : Int) = S * κ) :
    ∀ p ∈ wetL pts a f b t' g, Pk N p ∧ Pt3 (2 ^ 40) p := by
  have hk : 0 < κ := by rw [← e1]; exact Int.mul_pos F.fr.pos hc1
  have up : ∀ {n : Nat} {p : List Int}, Pt3 n p → n ≤ 2 ^ 40 → Pt3 (2 ^ 40) p := fun h k => h.up k
  intro p hp
  unfold wetL at hp
  rcases List.mem_cons.mp hp with r | r
  · rw [r]
    exact ⟨at_pk h hT ha F hc1 e1 hN, Pt3.up (at_pt hT ha F) (by decide)⟩
  · rcases List.mem_append.mp r with r | r
    · unfold corL at r
      obtain ⟨i, _, rfl⟩ := List.mem_map.mp r
      have h3 := h.three
      have hm : (a + 1 + i) % pts.length < pts.length := Nat.mod_lt _ (by omega)
      have pk := ptA_pk h hm
      refine ⟨⟨pk.pt, Nat.dvd_trans pk.dv ?_⟩, (ptA_ok hT hm).up (by decide)⟩
      have hk' : κ = (κ.toNat : Int) := (Int.toNat_of_nonneg (by omega)).symm
      rw [hk'] at hN
      exact ⟨κ.toNat, by exact_mod_cast hN⟩
    · by_cases c : t' = 0
      · rw [if_pos c] at r
        cases r
      · rw [if_neg c] at r
        rw [List.mem_singleton.mp r]
        exact ⟨at_pk h hT hb G hc2 e2 hN, Pt3.up (at_pt hT hb G) (by decide)⟩
theorem led_self {qs : List (List Int)} {N : Nat} (h0 : 0 < N) (h : ∀ q ∈ qs, Pk N q) : Led qs (qs.map (fsc N)) N :=
  ⟨by rw [List.length_map], fun i q p hq hp => by
    rw [List.getElem?_map, hq] at hp
    rw [← Option.some.inj hp]
    exact Q3.of_pk h0 (h q (List.mem_of_getElem? hq)), fun q hq => (h q hq).pt⟩
/-- what is known of a row that goes round to the left -/
structure Wt (qs : List (List Int)) (W : List P) (N : Nat) : Prop where
  n0 : 0 < N
  pk : ∀ q ∈ qs, Pk N q
  len : (hullL N qs).length = W.length
  sec : W.length ≤ 8 → Sec (hullL N qs) N
  cyc : ∀ f : P → P → Int, cyc f ((hullL N qs).map (fsc N)) = cyc f W
  sml : Sml (hullL N qs) N
theorem wt_of {qs : List (List Int)} {W : List P} {N : Nat} (h0 : 0 < N) (h1 : N < 2 ^ 60) (h : ∀ q ∈ qs, Pk N q ∧ Pt3 (2 ^ 40) q) (e : qs.map (fsc N) = W) (hT : Tri W) (h3 : 3 ≤ W.length) : Wt qs W N := by
  have L := led_self h0 fun q hq => (h q hq).1
  rw [e] at L
  have nd := tri_nodup hT h3
  obtain ⟨_, _, _, _, el⟩ := L.turn h0 (fun q => Iff.rfl) hT nd h3
  refine ⟨h0, fun q hq => (h q hq).1, el, fun h8 => L.sec h0 (Nat.lt_of_lt_of_le h1 (sb_ge (by decide))) (fun q => Iff.rfl) hT nd h3 h8 h8, fun f => L.cyc h0 (fun q => Iff.rfl) hT nd h3 f, ⟨fun p hp => ?_, h1⟩⟩
  exact (h p (hullL_mem h0 (fun q hq => (h q hq).1) hp)).2
/-- both parts of a cut section -/
structure Parts (pts : List (List Int)) (S : Nat) (qs rs : List (List Int)) (N : Nat) : Prop where
  ex : ∃ (V W : List P) (κ : Int), 0 < κ ∧ (N : Int) = S * κ ∧ Wt qs V N ∧ Wt rs W N ∧ cyc gA V + cyc gA W = κ * κ * cyc gA (pts.map (fsc S)) ∧ cyc gX V + cyc gX W = κ * κ * κ * cyc gX (pts.map (fsc S)) ∧ cyc gY V + cyc gY W = κ * κ * κ * cyc gY (pts.map (fsc S))
theorem parts_of {pts : List (List Int)} {S a b : Nat} {t e t' e' : Int} (h : Sec pts S) (hT : Tny pts S) (ha : a < pts.length) (hb : b < pts.length) (hl : isLn pts.length a t b t' = true) {f g : List Int} (F : Shr f t e) (G : Shr g t' e') :
    ∃ N, Parts pts S (wetL pts a f b t' g) (wetL pts b g a t f) N := by
  have he := F.fr.pos
  have he' := G.fr.pos
  have hk : 0 < e * e' := Int.mul_pos he he'
  have h0 := h.pol.scb.s0
  have hN : ((S * (e * e').toNat : Nat) : Int) = S * (e * e') := by rw [Int.natCast_mul, Int.toNat_of_nonneg (by omega)]
  refine ⟨S * (e * e').toNat, ?_⟩
  generalize S * (e * e').toNat = N at hN
  have n0 : 0 < N := by
    have : (0 : Int) < N := by rw [hN]; exact Int.mul_pos (by omega) hk
    omega
  have n1 : N < 2 ^ 60 := by
    have b1 := F.fr.bb
    have b2 := G.fr.bb
    have s5 := hT.s1
    have z : (N : Int).natAbs ≤ 5 * (10 * 10) := by
      rw [hN, Int.natAbs_mul, Int.natAbs_mul, Int.natAbs_natCast]
      exact Nat.mul_le_mul s5 (Nat.mul_le_mul b1 b2)
    rw [Int.natAbs_natCast] at z
    omega
  have ek : e * e' = e * e' := rfl
  have ek' : e' * e = e * e' := Int.mul_comm _ _
  have C := cut_of h ha hb hl F G he' he ek ek'
  have D := C.swap
  have neq := (isLn_facts hl).1
  have V := wt_of n0 n1 (wet_pk h hT ha hb F G he' he ek ek' hN) (wet_sc h ha hb F G he' he ek ek' hN) C.wet_tri C.wet_len
  have W := wt_of n0 n1 (wet_pk h hT hb ha G F he he' ek' ek hN) (wet_sc h hb ha G F he he' ek' ek hN) D.wet_tri D.wet_len
  refine ⟨_, _, e * e', hk, hN, V, W, ?_, ?_, ?_⟩
  · rw [← cut_cyc h ha hb neq gA]
    exact C.areas
  · rw [← cut_cyc h ha hb neq gX]
    exact C.momX
  · rw [← cut_cyc h ha hb neq gY]
    exact C.momY
end K05
namespace K05
open PySem L2 Ur Hull
/-! ### the law's order and hull of a tuple -/
def spSortedT (K : PySem.W.Frag) : Sp := fun vs H Q _ => ∃ (a : Addr) (its : List Im) (L : Nat), vs = [.ref a] ∧ SqT K H a (its.map Prod.fst) ∧ (∀ m ∈ its, Tp K H m.1 m.2 ∧ Pk L m.2) ∧ its.length ≤ 100 ∧ ∀ l H', H l = none → Same H H' → H' l = some (.lst ((sortI its).map Prod.fst)) → Q (.ref l) H'
def spLHullT (K : PySem.W.Frag) : Sp := fun vs H Q _ => ∃ (a : Addr) (its : List Im) (L : Nat), vs = [.ref a] ∧ SqT K H a (its.map Prod.fst) ∧ (∀ m ∈ its, Tp K H m.1 m.2 ∧ Pk L m.2) ∧ its.length ≤ 100 ∧ 0 < L ∧
  ∀ (r : Addr) H', Same H H' → SqT K H' r ((hullI L its).map Prod.fst) → Q (.ref r) H'
section
variable {P' : Program} {w : World} {K :
      PySem.W.Frag} {mg : Str → Option Value} {base : Heap}
theorem ok_lsortedT {f : Addr} {fd : FuncData} (F : Fun K "_law_sorted" "_law_sorted" sLSorted f fd) (T : Bl mg) (H_law_before : Has P' w K mg base "_law_before" p_lway 5 (spBef K)) : FnOk P' w K mg base CX0 6 f fd p_lspots (spSortedT K) := by
  refine F.ok sc_lsorted (fun vs H Q E h => ?_) (fun cdv A outer s H vs Q E hr h => ?_)
  · obtain ⟨_, _, _, rfl, _⟩ := h
    rfl
  · obtain ⟨a, its, L, rfl, hS, hI, hz, q⟩ := h
    have hu5 : (A.deeper (PyProof.Rows.envOfC "_law_sorted" (defScope sLSorted) s.heap.objs.size f cdv)).units + 65 < cLine := by have := hr.un; omega
    refine ⟨_, (pss_cons (ps_set (i := 1) sc_lsorted.nd rfl (Or.inl rfl) (pe_lst pa_nil))
      (pss_cons (ps_for PassesOwn.never rfl (pi_tup (pv 0)) (pg_name (i := 2) sc_lsorted.nd rfl (Or.inr rfl)) (pss_one (ps_if (pt_cmpR (notInD_K (K := K) rfl hu5) (pv 2) (pv 1) (by rfl)) (pss_one (ps_expr (pe_bm PySem.F.plainAttrs_list PySem.F.slot_list_insert PySem.F.type_list_insert mt_insert (pv 1) (pa_cons (pe_callB (r := Ur.rLen K) Ur.len_seq (by rfl) T.len PySem.boot_len (pa_cons (pe_lc (own := [("_law_mate", 3)]) (g := gName 3) rfl sc_lsorted.nd (pi_list (pv 1)) (blkOk_by (N := n_lsorted) (sc := defScope sLSorted) (by decide +kernel)) (fun _ _ _ _ _ => pg_name (i := 3) sc_lsorted.nd rfl (Or.inl rfl)) (fun _ _ _ _ _ => pts_one (pt_val (pe_has H_law_before (hr.mono (by decide)) (by rfl) (pa_cons (pv 3) (pa_cons (pv 2) pa_nil))))) (fun _ _ _ _ _ => (pv 3))) pa_nil)) (pa_cons (pv 2) pa_nil))))) pss_nil)))
      (pss_one (ps_ret (pv 1))))), ?_⟩
    refine ⟨by show 0 ≤ sizeLine; decide, fun l hl => ?_⟩
    refine ⟨_, rfl, a, rfl, ⟨_, same_sqT (same_new hl) hS⟩, for_tup (K := K) (a := a) (xs := its.map Prod.fst) (fun i σ H' => ∃ v : Option V, σ = [some (.ref a), some (.ref l), v, none] ∧ Same H H' ∧ H' l = some (.lst ((sortI (its.take i)).map Prod.fst))) ⟨none, rfl, same_new hl, upd_same⟩ (fun i σ H' _ ⟨_, _, sm, _⟩ => same_sqT sm hS) ?_ ?_⟩
    · rintro i x σ H' hi ⟨v, rfl, sm, hk⟩
      obtain ⟨it, hit, rfl⟩ : ∃ it, its[i]? = some it ∧ x = it.1 := by
        rw [List.getElem?_map] at hi
        cases e : its[i]? with
        | none => rw [e] at hi; cases hi
        | some it => rw [e] at hi; exact ⟨it, rfl, (Option.some.inj hi).symm⟩
      have hm := hI it (List.mem_of_getElem? hit)
      have hrow : ∀ m ∈ sortI (its.take i), Tp K H m.1 m.2 ∧ Pk L m.2 := fun m hm => hI m (List.mem_of_mem_take (sortI_mem hm))
      have hrl : (sortI (its.take i)).length ≤ 100 := by
        have := sortI_len (its.take i) []
        have h2 : (its.take i).length ≤ 100 := by rw [List.length_take]; omega
        have e : sortI (its.take i) = (its.take i).foldl insI [] := rfl
        rw [e]
        simp only [List.length_nil] at this
        omega
      have hnx := sortI_next hit
      generalize sortI (its.take i) = row at hk hrow hrl hnx
      have tm := hm.1.same sm
      have da : DpAll K H' (row.map Prod.fst) ((row.map Prod.snd).map tupD) := by
        have := dpAll_items (K := K) (H := H') (row := row) fun m hm => (hrow m hm).1.same sm
        rw [List.map_map]
        exact this
      refine ⟨_, rfl, _, rfl, _, _, tm.dp, dp_list hk da, shaped_ints _, shaped_list _, _, rfl, ?_⟩
      have ea : ((row.map Prod.snd).map tupD).any (fun z => PyData.eqv z (tupD it.2)) = decide (it.2 ∈ row.map Prod.snd) := by
        rw [List.map_map]
        exact any_mem it.2 row
      rw [show (PyData.tuple (it.2.map PyData.int)) = tupD it.2 from rfl, ea]
      refine ite2 (fun c
            => ?_) (fun c => ?_)
      · have hn : it.2 ∉ row.map Prod.snd := by simpa using c
        have ei : insI row it = row.take (cntI row it) ++ [it] ++ row.drop (cntI row it) := by unfold insI; rw [if_neg hn]
        refine ⟨_, rfl, Or.inl ⟨rfl, _, SqL.of hk⟩, ?_⟩
        unfold tCons tCB
        dsimp only
        refine lcLf (K := K) (a := l) (xs := row.map Prod.fst) (fun j => befL (row.getD j it).2 it.2) (fun R r => ⟨_, rfl, r⟩) (SqL.of hk) (by rw [List.length_map]; omega) (fun _ => rfl) (fun j y H3 hj s3 Q' q' => ?_) (fun j y H3 Q' q' => ⟨_, rfl, q'⟩) (fun D H3 hD s3 hy => ?_)
        · obtain ⟨m, hm1, rfl⟩ : ∃ m, row[j]? = some m ∧ y = m.1 := by
            rw [List.getElem?_map] at hj
            cases e : row[j]? with
            | none => rw [e] at hj; cases hj
            | some it => rw [e] at hj; exact ⟨it, rfl, (Option.some.inj hj).symm⟩
          have gm : row.getD j it = m := by rw [List.getD_eq_getElem?_getD, hm1]; rfl
          have hrm := hrow m (List.mem_of_getElem? hm1)
          obtain ⟨x1, y1, w1, A1⟩ := hrm.2.pt
          obtain ⟨x2, y2, w2, A2⟩ := hm.2.pt
          rw [gm] at q'
          exact ⟨_, rfl, _, rfl, m.1, it.1, m.2, it.2, _, _, _, _, _, _, CB, CB, rfl, (hrm.1.same sm).same s3, tm.same s3, A1, A2, w100, w100, fun H4 s4 => ⟨_, rfl, q' H4 s4⟩⟩
        · have ec : (accF (fun j => befL (row.getD j it).2 it.2) (row.map Prod.fst) (row.map Prod.fst).length).length = cntI row it := by
            rw [accF_map, List.length_map, List.length_map, accF_filter (g := fun m => befL m.2 it.2) (fun j x hj => by rw [List.getD_eq_getElem?_getD, hj]; rfl) _ (Nat.le_refl _), List.take_length]
            rfl
          have hcl : cntI row it ≤ row.length := List.length_filter_le _ _
          refine ⟨D, _, rfl, Or.inl (SqL.of hy), ?_⟩
          rw [ec]
          refine ⟨_, rfl, l, _, ((cntI row it : Nat) : Int), it.1, rfl, rfl, s3 _ _ hk, ?_, by omega, by omega, _, rfl, same_own (sm.trans s3) hl, ?_⟩
          · rw [List.length_map]
            exact Nat.lt_of_le_of_lt hrl (by decide)
          · rw [upd_same, hnx, ei, Int.toNat_natCast]
            simp [List.map_take, List.map_drop]
      · have hn : it.2 ∈ row.map Prod.snd := by
          refine Classical.byContradiction fun z => c ?_
          rw [decide_eq_false z]
          rfl
        have ei : insI row it = row := by unfold insI; rw [if_pos hn]
        exact ⟨_, rfl, sm, by rw [hnx, ei]; exact hk⟩
    · rintro σ H' ⟨v, rfl, sm, hk⟩
      rw [List.length_map, List.take_length] at hk
      exact ⟨_, rfl, q l H' hl sm hk⟩

theorem ok_lhullT {f : Addr} {fd : FuncData} (F : Fun K "_law_hull" "_law_hull" sLHull f fd) (T : Bl mg) (H_law_sorted : Has P' w K mg base "_law_sorted" p_lspots 6 (spSortedT K)) (H_law_side : Has P' w K mg base "_law_side" p_lside 5 (spLSide K)) : FnOk P' w K mg base CX0 7 f fd p_lspots (spLHullT K) := by
  refine F.ok sc_lhull (fun vs H Q E h => ?_) (fun cdv A outer s H vs Q E hr h => ?_)
  · obtain ⟨_, _, _, rfl, _⟩ := h
    rfl
  · obtain ⟨a, its, L, rfl, hS, hI, hz, hL, q⟩ := h
    refine ⟨_, (pss_cons (ps_set (i := 1) sc_lhull.nd rfl (Or.inl rfl) (pe_has H_law_sorted (hr.mono (by decide)) (by rfl) (pa_cons (pv 0) pa_nil)))
      (pss_cons (ps_if (pt_cmpR op_lt (pe_callB (r := Ur.rLen K) Ur.len_seq (by rfl) T.len PySem.boot_len (pa_cons (pv 1) pa_nil)) pe_int (nomark _)) (pss_one (ps_ret (pe_callTy call_tuple_of (by rfl) T.tuple PyProof.Rows.boot_tuple (pa_cons (pv 1) pa_nil)))) pss_nil)
      (pss_cons (ps_set (i := 2) sc_lhull.nd rfl (Or.inl rfl) (pe_lst pa_nil))
      (pss_cons (ps_for PassesOwn.never rfl (pi_list (pe_lst (pa_cons (pv 1) (pa_cons (pe_revL (pv 1)) pa_nil)))) (pg_name (i := 3) sc_lhull.nd rfl (Or.inl rfl)) (pss_cons (ps_set (i := 4) sc_lhull.nd rfl (Or.inl rfl) (pe_lst pa_nil))
      (pss_cons (ps_for PassesOwn.never rfl (pi_list (pv 3)) (pg_name (i := 5) sc_lhull.nd rfl (Or.inl rfl)) (pss_cons (ps_while PassesOwn.never (PW.pt (pw_and (pt_cmpR op_gt (pe_callB (r := Ur.rLen K) Ur.len_seq (by rfl) T.len PySem.boot_len (pa_cons (pv 4) pa_nil)) pe_int (nomark _)) (pw_and1 (pt_cmpR op_le (pe_has H_law_side (hr.mono (by decide)) (by rfl) (pa_cons (pe_ix (r := rIxL K) ix_list (pv 4) (pe_un un_neg pe_int) (fun _ _ => rfl)) (pa_cons (pe_ix (r := rIxL K) ix_list (pv 4) (pe_un un_neg pe_int) (fun _ _ => rfl)) (pa_cons (pv 5) pa_nil)))) pe_int (nomark _))))) (pss_one (ps_expr (pe_bm0 PySem.F.plainAttrs_list PySem.F.slot_list_pop PySem.F.type_list_pop mt_pop (pv 4)))))
      (pss_one (ps_expr (pe_bm PySem.F.plainAttrs_list PySem.F.slot_list_append PySem.F.type_list_append mt_append (pv 4) (pa_cons (pv 5) pa_nil))))))
      (pss_one (ps_set (i := 2) sc_lhull.nd rfl (Or.inl rfl) (pe_op op_cat (pv 2) (pe_slice sl_list (pv 4) po_none (po_some (pe_un un_neg pe_int)))))))))
      (pss_one (ps_ret (pe_callTy call_tuple_of (by rfl) T.tuple PyProof.Rows.boot_tuple (pa_cons (pv 2) pa_nil)))))))), ?_⟩
    refine ⟨_, rfl, a, its, L, rfl, hS, hI, hz, fun l H1 hl s1 h1 => ?_⟩
    obtain ⟨row, hrow⟩ : ∃ row, row = sortI its := ⟨_, rfl⟩
    have hq : hullI L its = hull (tI L) row := by rw [hrow]; rfl
    have hm : ∀ m ∈ row, Tp K H m.1 m.2 ∧ Pk L m.2 := fun m h => hI m (sortI_mem (hrow ▸ h))
    have hrl : row.length ≤ 100 := by
      have := sortI_len its []
      have e : sortI its = its.foldl insI [] := rfl
      rw [hrow, e]
      simp only [List.length_nil] at this
      omega
    rw [← hrow] at h1
    rw [hq] at q
    refine ⟨_, rfl, l, _, rfl, Or.inl (SqL.of h1), _, _, rfl, rfl, _, rfl, ?_⟩
    rw [List.length_map]
    refine ite2 (fun c
          => ?_) (fun c => ?_)
    · have h3 : row.length < 3 := by have := of_decide_eq_true c; omega
      rw [hull_short (tI L) h3] at q
      exact ⟨_, rfl, l, _, rfl, Or.inl ⟨SqL.of h1, fun r hr => q r _ (s1.trans (same_new hr)) (SqT.of upd_same)⟩⟩
    · have h3 : ¬ row.length < 3 := fun z => c (decide_eq_true (by omega))
      have eh : (hull (tI L) row).map Prod.fst = fndI L row 2 := by
        unfold hull
        rw [if_neg (by omega)]
        show _ = (([] ++ (bends (tI L) row).dropLast.map Prod.fst) ++ (bends (tI L) row.reverse).dropLast.map Prod.fst)
        rw [List.map_append, List.nil_append]
      rw [eh] at q
      refine ⟨by show 0 ≤ sizeLine; decide, fun fl hfl => ?_⟩
      have s2 := s1.trans (same_new (p := fl) (o := HO.lst []) hfl)
      have h2 : (upd H1 fl (.lst [])) l = some (.lst (row.map Prod.fst)) := same_new hfl _ _ h1
      have hf2 : (upd H1 fl (.lst [])) fl = some (.lst []) := upd_same
      generalize upd H1 fl (.lst []) = H2 at s2 h2 hf2
      refine ⟨_, rfl, _, rfl, l, _, rfl, SqL.of h2, fun lr hlr => ⟨by show 2 ≤ sizeLine; decide, fun ld hld => ?_⟩⟩
      have s3 := (s2.trans (same_new (p := lr) (o := HO.lst (row.map Prod.fst).reverse) hlr)).trans (same_new (p := ld) (o := HO.lst [V.ref l, .ref lr]) hld)
      have hl3 := same_new (p := ld) (o := HO.lst [V.ref l, .ref lr]) hld _ _ (same_new (p := lr) (o := HO.lst (row.map Prod.fst).reverse) hlr _ _ h2)
      have hlr3 := same_new (p := ld) (o := HO.lst [V.ref l, .ref lr]) hld _ _ (upd_same (H := H2) (a := lr) (o := HO.lst (row.map Prod.fst).reverse))
      have hf3 := same_new (p := ld) (o := HO.lst [V.ref l, .ref lr]) hld _ _ (same_new (p := lr) (o := HO.lst (row.map Prod.fst).reverse) hlr _ _ hf2)
      have hld3 : (upd (upd H2 lr (.lst (row.map Prod.fst).reverse)) ld (.lst [V.ref l, .ref lr])) ld = some (.lst [V.ref l, .ref lr]) := upd_same
      generalize upd (upd H2 lr (.lst (row.map Prod.fst).reverse)) ld (.lst [V.ref l, .ref lr]) = H3 at s3 hl3 hlr3 hf3 hld3
      refine ⟨ld, rfl, ⟨_, SqL.of hld3⟩, for_list (K := K) (a := ld) (xs := [V.ref l, .ref lr]) (fun i σ H' => ∃ (fa : Addr) (o3 o4 o5 : Option V), σ = [some (.ref a), some (.ref l), some (.ref fa), o3, o4, o5] ∧ Same H3 H' ∧ H' fa = some (.lst (fndI L row i))) ⟨fl, none, none, none, rfl, Same.refl _, hf3⟩ (fun i σ H' _ ⟨_, _, _, _, _, sm, _⟩ => sm.seq (SqL.of hld3)) ?_ ?_⟩
      · rintro i x σ H' hi ⟨fa, o3, o4, o5, rfl, sm, hfa⟩
        obtain ⟨ad, rfl, had⟩ : ∃ ad, x = .ref ad ∧ H' ad = some (.lst ((rowK row i).map Prod.fst)) := by
          match i, hi with
          | 0, hi => exact ⟨l, (Option.some.inj hi).symm, sm _ _ hl3⟩
          | 1, hi => exact ⟨lr, (Option.some.inj hi).symm, by
              have e : (rowK row 1).map Prod.fst = (row.map Prod.fst).reverse := by rw [← List.map_reverse]; rfl
              rw [e]
              exact sm _ _ hlr3⟩
        have hmk : ∀ m ∈ rowK row i, Tp K H' m.1 m.2 ∧ Pk L m.2 := fun m h => by
          have : m ∈ row := by
            unfold rowK at h
            split at h
            · exact h
            · exact List.mem_reverse.mp h
          exact ⟨((hm m this).1.same s3).same sm, (hm m this).2⟩
        have hkl : (rowK row i).length ≤ 100 := by
          unfold rowK
          split
          · exact hrl
          · rw [List.length_reverse]; exact hrl
        have hnext : fndI L row (i + 1) = fndI L row i ++ (bends (tI L) (rowK row i)).dropLast.map Prod.fst := rfl
        have hfl' : (fndI L row i).length ≤ 200 := by
          match i, hi with
          | 0, _ => exact Nat.zero_le _
          | 1, _ =>
            show ([] ++ (bends (tI L) row).dropLast.map Prod.fst).length ≤ 200
            have := bends_len (tI L) row
            rw [List.nil_append, List.length_map, List.length_dropLast]
            omega
        generalize rowK row i = rk at had hmk hkl hnext
        refine ⟨by show 0 ≤ sizeLine; decide, fun lc hlc => ?_⟩
        have sc1 := same_new (p := lc) (o := HO.lst []) hlc
        refine ⟨_, rfl, ad, rfl, ⟨_, SqL.of (sc1 _ _ had)⟩, for_list (K := K) (a := ad) (xs := rk.map Prod.fst) (fun j σ H'' => ∃ o5 : Option V, σ = [some (.ref a), some (.ref l), some (.ref fa), some (.ref ad), some (.ref lc), o5] ∧ Same H' H'' ∧ H'' lc = some (.lst ((Hull.stack (tI L) (rk.take j)).map Prod.fst).reverse)) ⟨o5, rfl, sc1, upd_same⟩ (fun j σ H'' _ ⟨_, _, sm, _⟩ => SqL.of (sm _ _ had)) ?_ ?_⟩
        · rintro j x σ H'' hj ⟨o5', rfl, s4, hk⟩
          obtain ⟨it, hit, rfl⟩ : ∃ it, rk[j]? = some it ∧ x = it.1 := by
            rw [List.getElem?_map] at hj
            cases e : rk[j]? with
            | none => rw [e] at hj; cases hj
            | some it => rw [e] at hj; exact ⟨it, rfl, (Option.some.inj hj).symm⟩
          have hx := hmk it (List.mem_of_getElem? hit)
          have hst : ∀ y ∈ Hull.stack (tI L) (rk.take j), Tp K H' y.1 y.2 ∧ Pk L y.2 := fun y hy => hmk y (List.mem_of_mem_take (stack_mem hy))
          have hsl : (Hull.stack (tI L) (rk.take j)).length ≤ 100 := by
            have : (Hull.stack (tI L) (rk.take j)).length ≤ 0 + (rk.take j).length := stack_len (t := tI L) (rk.take j) []
            rw [List.length_take] at this
            omega
          have hnx := stack_next (t := tI L) hit
          generalize Hull.stack (tI L) (rk.take j) = st0 at hk hst hsl hnx
          refine ⟨fun m σ H4 => ∃ st, st.length = m ∧ σ = [some (.ref a), some (.ref l), some (.ref fa), some (.ref ad), some (.ref lc), some it.1] ∧ Same H' H4 ∧ H4 lc = some (.lst (st.map Prod.fst).reverse) ∧ popw (tI L) it st = popw (tI L) it st0 ∧ (∀ y ∈ st, Tp K H' y.1 y.2 ∧ Pk L y.2) ∧ st.length ≤ 100, ⟨_, st0, rfl, rfl, s4, hk, rfl, hst, hsl⟩, ?_⟩
          rintro m σ H4 ⟨st, rfl, rfl, s5, h5, ep, hst2, hl2⟩
          refine ⟨_, rfl, lc, _, rfl, Or.inl (SqL.of h5), ?_⟩
          rw [List.length_reverse, List.length_map]
          match st, ep, hst2, hl2, h5 with
          | [], ep, hst2, hl2, h5 =>
            refine ⟨_, _, rfl, rfl, _, rfl, ?_⟩
            refine ite2 (fun c => absurd (of_decide_eq_true c) (by decide)) (fun _ => ?_)
            exact ⟨_, rfl, Or.inl ⟨rfl, _, SqL.of h5⟩, _, rfl, lc, _, _, rfl, rfl, h5, by show 0 < sizeLine; decide, some it.1, rfl, same_own s5 hlc, by rw [upd_same, hnx, ← ep]; rfl⟩
          | [b], ep, hst2, hl2, h5 =>
            refine ⟨_, _, rfl, rfl, _, rfl, ?_⟩
            refine ite2 (fun c => absurd (of_decide_eq_true c) (by simp)) (fun _ => ?_)
            exact ⟨_, rfl, Or.inl ⟨rfl, _, SqL.of h5⟩, _, rfl, lc, _, _, rfl, rfl, h5, by show 1 < sizeLine; decide, some it.1, rfl, same_own s5 hlc, by rw [upd_same, hnx, ← ep]; rfl⟩
          | b :: c :: r, ep, hst2, hl2, h5 =>
            have er : ((b :: c :: r).map Prod.fst).reverse = (r.map Prod.fst).reverse ++ [c.1] ++ [b.1] := by simp
            rw [er] at h5
            have hb := hst2 b List.mem_cons_self
            have hc := hst2 c (List.mem_cons_of_mem _ List.mem_cons_self)
            have ei : popw (tI L) it (b :: c :: r) = if tI L c b it then popw (tI L) it (c :: r) else b :: c :: r := rfl
            obtain ⟨x1, y1, w1, A1⟩ := hc.2.pt
            obtain ⟨x2, y2, w2, A2⟩ := hb.2.pt
            obtain ⟨x3, y3, w3', A3⟩ := hx.2.pt
            refine ⟨_, _, rfl, rfl, _, rfl, ?_⟩
            refine ite2 (fun _ => ?_) (fun d => absurd (decide_eq_true (by simp only [List.length_cons]; omega)) d)
            refine ⟨_, rfl, _, rfl, lc, _, _, c.1, rfl, rfl, SqL.of h5, atI_two _ _ _, _, rfl, _, rfl, lc, _, _, b.1, rfl, rfl, SqL.of h5, atI_last _ _, _, rfl, c.1, b.1, it.1, c.2, b.2, it.2, _, _, _, _, _, _, _, _, _, CB, rfl, hc.1.same s5, hb.1.same s5, hx.1.same s5, A1, A2, A3, Nat.le_refl _, fun H6 s6 => ⟨_, _, rfl, rfl, _, rfl, ?_⟩⟩
            have eg : decide (sidL c.2 b.2 it.2 ≤ 0) = tI L c b it := sid_gone hL hc.2 hb.2 hx.2
            rw [eg]
            have s56 := s5.trans s6
            have h6 := s6 _ _ h5
            refine ite2 (fun d => ?_) (fun d => ?_)
            · have e2 : popw (tI L) it (c :: r) = popw (tI L) it st0 := by
                rw [← ep, ei, if_pos d]
              refine ⟨fun σ' H' => σ' = [some (.ref a), some (.ref l), some (.ref fa), some (.ref ad), some (.ref lc), some it.1] ∧ Same _ H' ∧ H' lc = some (.lst ((c :: r).map Prod.fst).reverse), fun σ' H' ⟨g1, g2, g3⟩ => ⟨(c :: r).length, by simp, c :: r, rfl, g1, g2, g3, e2, fun y hy => hst2 y (List.mem_cons_of_mem _ hy), by simp only [List.length_cons] at hl2 ⊢; omega⟩, ?_⟩
              exact ⟨_, rfl, Or.inl ⟨rfl, _, SqL.of h6⟩, lc, _, b.1, rfl, rfl, h6, by simp, rfl, same_own s56 hlc, by rw [upd_same, List.dropLast_concat]; simp⟩
            · have e2 : b :: c :: r = popw (tI L) it st0 := by
                rw [← ep, ei, if_neg d]
              refine ⟨_, rfl, Or.inl ⟨rfl, _, SqL.of h6⟩, _, rfl, lc, _, _, rfl, rfl, h6, ?_, some it.1, rfl, same_own s56 hlc, by rw [upd_same, hnx, ← e2]; simp⟩
              refine Nat.lt_of_le_of_lt (?_ : _ ≤ 1000) (by decide)
              simp only [List.length_append, List.length_reverse, List.length_cons, List.length_nil, List.length_map] at hl2 ⊢
              omega
        · rintro σ H'' ⟨o5', rfl, s4, hk⟩
          rw [List.length_map, List.take_length] at hk
          refine ⟨_, rfl, _, rfl, 1, rfl, -1, rfl, lc, _, rfl, SqL.of hk, fun p hp => ?_⟩
          rw [cut_last]
          have eb : ((Hull.stack (tI L) rk).map Prod.fst).reverse.dropLast = (bends (tI L) rk).dropLast.map Prod.fst := by
            unfold bends
            rw [← List.map_reverse, List.map_dropLast]
          rw [eb]
          have hbl := bends_len (tI L) rk
          have s6 := s4.trans (same_new (p := p) (o := HO.lst ((bends (tI L) rk).dropLast.map Prod.fst)) hp)
          refine ⟨_, _, _, _, rfl, rfl, s6 _ _ hfa, upd_same, ?_, fun p2 hp2 => ⟨p2, _, _, _, rfl, sm.trans (s6.trans (same_new hp2)), by rw [upd_same, hnext]⟩⟩
          rw [List.length_map, List.length_dropLast]
          exact Nat.le_trans (by omega : _ ≤ 400) (by decide)
      · rintro σ H' ⟨fa, o3, o4, o5, rfl, sm, hfa⟩
        exact ⟨_, rfl, fa, _, rfl, Or.inl ⟨SqL.of hfa, fun r hr => q r _ ((s3.trans sm).trans (same_new hr)) (SqT.of upd_same)⟩⟩
end
end K05
namespace K05
open PySem L2 Ur Hull
theorem cut_tk {xs : List V} {n : Nat} (h : n ≤ xs.length) : cutV xs none (some (n : Int)) = xs.take n := by
  unfold cutV
  have e1 : HT.sIx xs.length 0 none = 0 := rfl
  have e2 : HT.sIx xs.length xs.length (some (n : Int)) = min n xs.length := HT.sIx_nat xs.length xs.length n
  rw [e1, e2, List.drop_zero, Nat.sub_zero, Nat.min_eq_left h]
theorem cut_dt {xs : List V} {m n : Nat} (h : n ≤ xs.length) (hm : m ≤ n) : cutV xs (some (m : Int)) (some (n : Int)) = (xs.drop m).take (n - m) := by
  unfold cutV
  have e1 : HT.sIx xs.length 0 (some (m : Int)) = min m xs.length := HT.sIx_nat xs.length 0 m
  have e2 : HT.sIx xs.length xs.length (some (n : Int)) = min n xs.length := HT.sIx_nat xs.length xs.length n
  rw [e1, e2, Nat.min_eq_left h, Nat.min_eq_left (by omega)]
theorem sl_take {K : PySem.W.Frag} {H : Hp} {a : Addr} {xs : List V} {n : Nat} {Q : VK} (hS : SqT K H a xs) (h : n < xs.length) (q : ∀ p, H p = none → Q (.ref p) (upd H p (.tup (xs.take n)))) : rSlA K (.ref a) none (some (n : Int)) H Q := by
  refine ⟨a, xs, rfl, hS, fun w => ?_, fun _ p hp => ?_⟩
  · have e2 : HT.sIx xs.length xs.length (some (n : Int)) = min n xs.length := HT.sIx_nat xs.length xs.length n
    rw [e2] at w
    omega
  · rw [cut_tk (by omega)]
    exact q p hp
theorem sl_mid {K : PySem.W.Frag} {H : Hp} {a : Addr} {xs : List V} {m n : Nat} {Q : VK} (hS : SqT K H a xs) (h : n ≤ xs.length) (hm : m ≤ n) (h0 : 0 < m) (q : ∀ p, H p = none → Q (.ref p) (upd H p (.tup ((xs.drop m).take (n - m))))) : rSlA K (.ref a) (some (m : Int)) (some (n : Int)) H Q := by
  refine ⟨a, xs, rfl, hS, fun w => ?_, fun _ p hp => ?_⟩
  · have e1 : HT.sIx xs.length 0 (some (m : Int)) = min m xs.length := HT.sIx_nat xs.length 0 m
    rw [e1] at w
    omega
  · rw [cut_dt h hm]
    exact q p hp
theorem Al.tk {α : Type} {R : V → α → Prop} {ys : List V} {ps : List α} (h : Al R ys ps) (n : Nat) : Al R (ys.take n) (ps.take n) := by
  refine ⟨by rw [List.length_take, List.length_take, h.len], fun i y p hy hp => ?_⟩
  rw [List.getElem?_take] at hy hp
  by_cases c : i < n
  · rw [if_pos c] at hy hp
    exact h.at_ i y p hy hp
  · rw [if_neg c] at hy
    cases hy
theorem Al.dr {α : Type} {R : V → α → Prop} {ys : List V} {ps : List α} (h : Al R ys ps) (n : Nat) : Al R (ys.drop n) (ps.drop n) := by
  refine ⟨by rw [List.length_drop, List.length_drop, h.len], fun i y p hy hp => ?_⟩
  rw [List.getElem?_drop] at hy hp
  exact h.at_ (n + i) y p hy hp
theorem hl_one (x : P) : hl [x] = [x] := rfl
/-- one point is a polygon -/
theorem pol_one {S : Nat} {p : List Int} (h0 : 0 < S) (h1 : S < SB) (h : Pk S p) : Pol [p] S := by
  have e : hullL S [p] = [p] := by
    show (hl [fsc S p]).map _ = _
    rw [hl_one]
    show [thin [(fsc S p).1, (fsc S p).2, (S : Nat)]] = _
    rw [pk_back h0 h]
  have := hull_pol (pts := [p]) h0 h1 (by simp) fun q hq => by rw [List.mem_singleton.mp hq]; exact h
  rw [e] at this
  exact this
theorem cyc_few {f : P → P → Int} (anti : ∀ a b, f a b = - f b a) {l : List P} (h : l.length ≤ 2) : cyc f l = 0 := by
  have h0 : ∀ a, f a a = 0 := fun a => by have := anti a a; omega
  match l, h with
  | [], _ => rfl
  | [a], _ =>
    show f a a + 0 = 0
    rw [h0]
    rfl
  | [a, b], _ =>
    show f a b + (f b a + 0) = 0
    have := anti a b
    omega
theorem hullL_ne {L : Nat} {pts : List (List Int)} (h : pts ≠ []) : 0 < (hullL L pts).length := by
  unfold hullL
  rw [List.length_map]
  cases pts with
  | nil => exact (h rfl).elim
  | cons p r =>
    obtain ⟨d, hd, _⟩ := hl_min 0 0 (l := (p :: r).map (fsc L)) (q := fsc L p) (by simp)
    exact List.length_pos_of_mem hd
/-- the law's own hull, told -/
theorem hullI_al {K : PySem.W.Frag} {H : Hp} {L : Nat} (h0 : 0 < L) {its : List Im} (h : ∀ m ∈ its, Tp K H m.1 m.2 ∧ Pk L m.2) : Al (Tp K H) ((hullI L its).map Prod.fst) (hullL L (its.map Prod.snd)) := by
  have e := hullI_L h0 (its := its) fun m hm => (h m hm).2
  refine ⟨by rw [← e, List.length_map, List.length_map], fun i y p hy hp => ?_⟩
  rw [← e, List.getElem?_map] at hp
  rw [List.getElem?_map] at hy
  cases hm : (hullI L its)[i]? with
  | none => rw [hm] at hp; cases hp
  | some m =>
    rw [hm] at hp hy
    have e1 := Option.some.inj hp
    have e2 := Option.some.inj hy
    rw [← e1, ← e2]
    exact (h m (sortI_mem (hull_mem' (List.mem_of_getElem? hm)))).1
theorem zip_its {K : PySem.W.Frag} {H : Hp} {L : Nat} {ys : List V} {qs : List (List Int)} (al : Al (Tp K H) ys qs) (hp : ∀ q ∈ qs, Pk L q) : (ys.zip qs).map Prod.fst = ys ∧ (ys.zip qs).map Prod.snd = qs ∧ (∀ m ∈ ys.zip qs, Tp K H m.1 m.2 ∧ Pk L m.2) ∧ (ys.zip qs).length = qs.length := by
  refine ⟨List.map_fst_zip (by rw [al.len]; omega), List.map_snd_zip (by rw [al.len]; omega), fun m hm => ?_, by rw [List.length_zip, al.len]; omega⟩
  obtain ⟨j, hj⟩ := List.mem_iff_getElem?.mp hm
  obtain ⟨h1, h2⟩
        := List.getElem?_zip_eq_some.mp hj
  exact ⟨al.at_ j _ _ h1 h2, hp _ (List.mem_of_getElem? h2)⟩
theorem big_p3 {a : List Int} {x y w : Int} (A : PtL (2 ^ 310) a x y w) : Big (tupD a) 2406 1 := by
  have ea := A.eq
  subst ea
  have lt : ∀ {z : Int}, z.natAbs ≤ 2 ^ 310 → z.natAbs < 2 ^ 800 := fun h => Nat.lt_of_le_of_lt h (Nat.pow_lt_pow_right (by decide) (by decide))
  exact Big.tup (.cons (big_int (lt A.bx)) (.cons (big_int (lt A.bby)) (.cons (big_int (lt A.bw)) .nil)))
theorem big_f2 {a : List Int} {t e : Int} (A : FrL (2 ^ 209) a t e) : Big (tupD a) 1604 1 := by
  have ea := A.eq
  subst ea
  have lt : ∀ {z : Int}, z.natAbs ≤ 2 ^ 209 → z.natAbs < 2 ^ 800 := fun h => Nat.lt_of_le_of_lt h (Nat.pow_lt_pow_right (by decide) (by decide))
  exact Big.tup (.cons (big_int (lt A.bt)) (.cons (big_int (lt A.bb)) .nil))
theorem row_small {d : List (List Int)} {N : Nat} (h : Sec d N) (hM : Sml d N) : (cyc gX (d.map (fsc N))).natAbs ≤ 2 ^ 309 ∧ (cyc gY (d.map (fsc N))).natAbs ≤ 2 ^ 309 ∧ (cyc gA (d.map (fsc N))).natAbs ≤ 2 ^ 207 := by
  have h3 := h.three
  have h8 := h.eight
  exact gXY_le (fun e => by have := congrArg List.length e; simp only [List.length_map, List.length_nil] at this; omega) hM.all (by rw [List.length_map]; exact h8)
theorem n_60 {N : Nat} (h : N < 2 ^ 60) : (N : Int).natAbs ≤ 2 ^ 60 := by rw [Int.natAbs_natCast]; exact Nat.le_of_lt h
theorem area_bd {d : List (List Int)} {N : Nat} {a : List Int} (h : Sec d N) (hM : Sml d N) (q : Q2 a (cyc gA (d.map (fsc N))) (2 * (N : Int) * N)) : ∃ t e, FrL (2 ^ 209) a t e := by
  obtain ⟨_, _, b⟩ := row_small h hM
  have hn := n_60 hM.s1
  refine q.bd (Nat.le_trans b (pup (by decide))) ?_
  rw [Int.natAbs_mul, Int.natAbs_mul]
  exact Nat.le_trans (Nat.mul_le_mul (Nat.mul_le_mul (Nat.le_refl 2) hn) hn) (Nat.le_trans (by decide : 2 * 2 ^ 60 * 2 ^ 60 ≤ 2 ^ 121) (pup (by decide)))
theorem mid_bd {d : List (List Int)} {N : Nat} {m : List Int} (h : Sec d N) (hM : Sml d N) (q : Q3 m (cyc gX (d.map (fsc N))) (cyc gY (d.map (fsc N))) (3 * cyc gA (d.map (fsc N)) * N)) : ∃ x y w, PtL (2 ^ 310) m x y w := by
  obtain ⟨a, b, c⟩ := row_small h hM
  have hn := n_60 hM.s1
  refine q.bd (Nat.le_trans a (pup (by decide))) (Nat.le_trans b (pup (by decide))) ?_
  rw [Int.natAbs_mul, Int.natAbs_mul]
  refine Nat.le_trans (Nat.mul_le_mul (Nat.mul_le_mul (by decide : (3 : Int).natAbs ≤ 2 ^ 2) c) hn) ?_
  rw [← Nat.pow_add,
        ← Nat.pow_add]
  exact pup (by decide)
/-- the areas of both parts -/
theorem parts_area {T1 T2 T : Int} {S N : Nat} {κ : Int} {a1 a2 b : List Int} (hk : 0 < κ) (hN : (N : Int) = S * κ) (hN0 : 0 < N) (e : T1 + T2 = κ * κ * T) (A1 : Q2 a1 T1 (2 * (N : Int) * N)) (A2 : Q2 a2 T2 (2 * (N : Int) * N)) (B : Q2 b T (2 * (S : Int) * S)) : addF a1 a2 = b := by
  have h2 : (0 : Int) < 2 * (N : Int) * N := A1.pos
  have z := (A1.add A2).sc (k := 2 * (N : Int) * N) (t := κ * κ * T) (e := 2 * (N : Int) * N) h2 (by rw [← e]; grind) (by grind)
  exact (z.sc (k := κ * κ) (Int.mul_pos hk hk) rfl (by rw [hN]; grind)).same B
theorem one_mid {X Y T : Int} {N : Nat} {a m : List Int} (hN0 : 0 < N) (A : Q2 a T (2 * (N : Int) * N)) (M : Q3 m X Y (3 * T * N)) : Q3 (byL m a) X Y (6 * (N : Int) * N * N) := by
  have hN : (0 : Int) < N := by omega
  have hT : 0 < T := by
    have := M.pos
    refine Int.pos_of_mul_pos_right (a := 3 * N) (b := T) ?_ (by omega)
    rw [show 3 * (N : Int) * T = 3 * T * N by grind]
    exact this
  exact (M.by_ A).sc (k := T) hT (by grind) (by grind) (by grind)
/-- the middles of both parts -/
theorem parts_mid {X1 Y1 T1 X2 Y2 T2 X Y T : Int} {S N : Nat} {κ : Int} {a1 a2 b m1 m2 m : List Int} (hk : 0 < κ) (hN : (N : Int) = S * κ) (hN0 : 0 < N) (hS0 : 0 < S) (ex : X1 + X2 = κ * κ * κ * X) (ey : Y1 + Y2 = κ * κ * κ * Y) (A1 : Q2 a1 T1 (2 * (N : Int) * N)) (A2 : Q2 a2 T2 (2 * (N : Int) * N)) (B : Q2 b T (2 * (S : Int) * S))
    (M1 : Q3 m1 X1 Y1 (3 * T1 * N)) (M2 : Q3 m2 X2 Y2 (3 * T2 * N)) (M : Q3 m X Y (3 * T * S)) : sumL (byL m1 a1) (byL m2 a2) = byL m b := by
  have z1 := one_mid hN0 A1 M1
  have z2 := one_mid hN0 A2 M2
  have z := one_mid hS0 B M
  have h6 : (0 : Int) < 6 * (N : Int) * N * N := z1.pos
  have s := (z1.sum z2).sc (k := 6 * (N : Int) * N * N) (x := κ * κ * κ * X) (y := κ * κ * κ * Y) (w := 6 * (N : Int) * N * N) h6 (by rw [← ex]; grind) (by rw [← ey]; grind) (by grind)
  exact (s.sc (k := κ * κ * κ) (Int.mul_pos (Int.mul_pos hk hk) hk) rfl rfl (by rw [hN]; grind)).same z
end K05

namespace K05
open PySem L2 Ur Hull
/-- the line through p, square to the way to the other one -/
def endL : List Int → List Int → List Int
  | [x, y, w], q => match wayL [x, y, w] q with
    | [a, b, _] => [-a * w, -b * w, -a * x - b * y]
    | _ => []
  | _, _ => []
/-- lines about a point -/
def ptLn : List Int → List (List Int)
  | [x, y, w] => [[w, 0, x], [-w, 0, -x], [0, w, y], [0, -w, -y]]
  | _ => []
/-- the lines that a polygon lies within -/
def hpL (pts : List (List Int)) : List (List Int) := match pts with
  | [p] => ptLn p
  | [p, q] => [lnL q p, lnL p q, endL p q, endL q p]
  | _ => (List.range pts.length).map fun i => lnAt pts i
theorem len_two {α : Type} {l : List α} (h : l.length = 2) : ∃ a b, l = [a, b] := by
  match l, h with
  | [a, b], _ => exact ⟨a, b, rfl⟩
def spEndL (K : PySem.W.Frag) : Sp := fun vs H Q _ => ∃ (v v' : V) (a b : List Int) (x y w x' y' w' : Int) (n m : Nat), vs = [v, v'] ∧ Tp K H v a ∧ Tp K H v' b ∧ PtL n a x y w ∧ PtL m b x' y' w' ∧ n ≤ CB ∧ m ≤ CB ∧ ∀ p H', Same H H' → Tp K H' p (endL a b) → Q p H'
def spHalfG (K : PySem.W.Frag) : Sp := fun vs H Q _ => ∃ (t : Addr) (xs : List V) (pts : List (List Int)), vs = [.ref t] ∧ SqT K H t xs ∧ Al (Tp K H) xs pts ∧ 1 ≤ pts.length ∧ pts.length ≤ 1000 ∧ (∀ p ∈ pts, Pt3 CB p) ∧
  ∀ (l : Addr) (ls : List V) H', Same H H' → H' l = some (.lst ls) → Al (Tp K H') ls (hpL pts) → Q (.ref l) H'
section
variable {P' : Program} {w : World} {K :
      PySem.W.Frag} {mg : Str → Option Value} {base : Heap}
abbrev n_endl : List Str := ["point", "other", "x", "y", "w", "way"]
end
theorem hp_len {pts : List (List Int)} (hz : pts.length ≤ 1000) : (hpL pts).length ≤ 1004 := by
  match pts, hz with
  | [], _ => exact Nat.zero_le _
  | [p], _ =>
    show (ptLn p).length ≤ 1004
    unfold ptLn
    split
    · exact (by decide : 4 ≤ 1004)
    · exact Nat.zero_le _
  | [_, _], _ => exact (by decide : 4 ≤ 1004)
  | a :: b :: c :: r, hz =>
    show ((List.range (a :: b :: c :: r).length).map _).length ≤ 1004
    rw [List.length_map,
          List.length_range]
    omega
/-- no line has the point beyond -/
def hasG (pts : List (List Int)) (q : List Int) : Bool := ((hpL pts).map fun l => decide (exL l q ≤ 0)).all id
def insG (pts : List (List Int)) (q : List Int) : Bool := ((hpL pts).map fun l => decide (exL l q < 0)).all id
def spHasG (K : PySem.W.Frag) (g : List (List Int) → List Int → Bool) : Sp := fun vs H Q _ => ∃ (t : Addr) (v : V) (xs : List V) (pts : List (List Int)) (q : List Int) (x y w : Int) (n : Nat), vs = [.ref t, v] ∧ SqT K H t xs ∧ Al (Tp K H) xs pts ∧ 1 ≤ pts.length ∧ pts.length ≤ 1000 ∧ (∀ p ∈ pts, Pt3 CB p) ∧ Tp K H v q ∧ PtL n q x y w ∧ n ≤ CB ∧ ∀ H', Same H H' → Q (.bl (g pts q)) H'
def Lbd (l : List Int) : Prop := ∃ a b h : Int, l = [a, b, h] ∧ a.natAbs < 2 ^ 2301 ∧ b.natAbs < 2 ^ 2301 ∧ h.natAbs < 2 ^ 2301
theorem cb2 {z : Int} (h : z.natAbs ≤ CB) : z.natAbs < 2 ^ 2301 := Nat.lt_of_le_of_lt h (cb_lt (by decide))
theorem end_bd {p q : List Int} (hp : Pt3 CB p) (hq : Pt3 CB q) : Lbd (endL p q) := by
  obtain ⟨x, y, w, A⟩ := hp
  obtain ⟨u, v, z, B⟩ := hq
  have eA := A.eq
  subst eA
  obtain ⟨_, a, b, c, _, _, _, _, Z⟩ := pt_way A B
  have ee : endL [x, y, w] q = [-a * w, -b * w, -a * x - b * y] := by
    show (match wayL [x, y, w] q with | [a, b, _] => [-a * w, -b * w, -a * x - b * y] | _ => []) = _
    rw [Z.eq]
  have h2 : CB * CB + CB * CB ≤ 2 ^ 1401 := by
    unfold CB
    rw [← Nat.pow_add, show (1401 : Nat) = 1400 + 1 from rfl, Nat.pow_succ]
    omega
  have bz : ∀ {i j : Int}, i.natAbs ≤ CB * CB + CB * CB → j.natAbs ≤ CB → (i * j).natAbs ≤ 2 ^ 2101 := fun {i j} hi hj => by
    rw [Int.natAbs_mul]
    refine Nat.le_trans (Nat.mul_le_mul (Nat.le_trans hi h2) hj) ?_
    unfold CB
    rw [← Nat.pow_add]
    exact Nat.le_refl _
  have ng : ∀ {i : Int}, i.natAbs ≤ CB * CB + CB * CB → (-i).natAbs ≤ CB * CB + CB * CB := fun h => by rw [Int.natAbs_neg]; exact h
  have lt : (2 : Nat) ^ 2101 + 2 ^ 2101 < 2 ^ 2301 := by
    rw [← Nat.two_mul, Nat.mul_comm, ← Nat.pow_succ]
    exact Nat.pow_lt_pow_right (by decide) (by decide)
  refine ⟨_, _, _, ee, ?_, ?_, ?_⟩
  · exact Nat.lt_of_le_of_lt (Nat.le_trans (bz (ng Z.bx) A.bw) (Nat.le_add_right _ _)) lt
  · exact Nat.lt_of_le_of_lt (Nat.le_trans (bz (ng Z.bby) A.bw) (Nat.le_add_right _ _)) lt
  · exact Nat.lt_of_le_of_lt (subb (bz (ng Z.bx) A.bx) (bz Z.bby A.bby)) lt
theorem ln_bd {p q : List Int} (hp : Pt3 CB p) (hq : Pt3 CB q) : Lbd (lnL p q) := by
  obtain ⟨X, Y, W, B⟩ := hp
  obtain ⟨X', Y', W', B'⟩ := hq
  have big : CB * CB + CB * CB < 2 ^ 2301 := by
    refine Nat.lt_of_le_of_lt (show CB * CB + CB * CB ≤ 2 ^ 1401 from ?_) (Nat.pow_lt_pow_right (by decide) (by decide))
    unfold CB
    rw [← Nat.pow_add, show (1401 : Nat) = 1400 + 1 from rfl, Nat.pow_succ]
    omega
  have eB := B.eq
  have eB' := B'.eq
  subst eB eB'
  exact ⟨_, _, _, rfl, Nat.lt_of_le_of_lt (subb (mulb B'.bby B.bw) (mulb B.bby B'.bw)) big, Nat.lt_of_le_of_lt (subb (mulb B.bx B'.bw) (mulb B'.bx B.bw)) big, Nat.lt_of_le_of_lt (subb (mulb B.bx B'.bby) (mulb B'.bx B.bby)) big⟩
theorem hp_bd {pts : List (List Int)} (hC : ∀ p ∈ pts, Pt3 CB p) (h1 : 1 ≤ pts.length) : ∀ l ∈ hpL pts, Lbd l := by
  match pts, h1 with
  | [p], _ =>
    obtain ⟨x, y, w, A⟩ := hC p (by simp)
    have eA := A.eq
    subst eA
    have z0 : (0 : Int).natAbs < 2 ^ 2301 := Nat.two_pow_pos _
    have n1 : ∀ {i : Int}, i.natAbs ≤ CB → (-i).natAbs < 2 ^ 2301 := fun h => by rw [Int.natAbs_neg]; exact cb2 h
    intro l hl
    have hl' : l ∈ [[w, 0, x], [-w, 0, -x], [0, w, y], [0, -w, -y]] := hl
    simp only [List.mem_cons, List.not_mem_nil, or_false] at hl'
    rcases hl' with rfl | rfl | rfl | rfl
    · exact ⟨_, _, _, rfl, cb2 A.bw, z0, cb2 A.bx⟩
    · exact ⟨_, _, _, rfl, n1 A.bw, z0, n1 A.bx⟩
    · exact ⟨_, _, _, rfl, z0, cb2 A.bw, cb2 A.bby⟩
    · exact ⟨_, _, _, rfl, z0, n1 A.bw, n1 A.bby⟩
  | [p, q], _ =>
    have hp := hC p (by simp)
    have hq := hC q (by simp)
    intro l hl
    have hl' : l ∈ [lnL q p, lnL p q, endL p q, endL q p] := hl
    simp only [List.mem_cons, List.not_mem_nil, or_false] at hl'
    rcases hl' with rfl | rfl | rfl | rfl
    · exact ln_bd hq hp
    · exact ln_bd hp hq
    · exact end_bd hp hq
    · exact end_bd hq hp
  | a :: b :: c :: r, _ =>
    intro l hl
    obtain ⟨i, hi, rfl⟩ := List.mem_map.mp hl
    rw [List.mem_range] at hi
    have hb : befI (a :: b :: c :: r).length i < (a :: b :: c :: r).length := by unfold befI; split <;> omega
    refine ln_bd ?_ ?_
    · rw [List.getD_eq_getElem?_getD, List.getElem?_eq_getElem hb]
      exact hC _ (List.getElem_mem hb)
    · rw [List.getD_eq_getElem?_getD, List.getElem?_eq_getElem hi]
      exact hC _ (List.getElem_mem hi)
def spHoldsG (K : PySem.W.Frag) : Sp := fun vs H Q _ => ∃ (v u : V) (xs : List V) (pts : List (List Int)) (S : Nat) (q : List Int) (x y w : Int) (n : Nat), vs = [v, u] ∧ (∃ t, v = .ref t ∧ SqT K H t xs) ∧ Al (Tp K H) xs pts ∧ Pol pts S ∧ 0 < pts.length ∧ Tp K H u q ∧ PtL n q x y w ∧ n ≤ CB ∧ ∀ H', Same H H' → Q (.bl (hasG pts q)) H'
def spIsIn (K : PySem.W.Frag) : Sp := fun vs H Q _ => ∃ (v u : V) (xs : List V) (pts : List (List Int)) (S : Nat) (q : List Int) (x y w : Int) (n : Nat), vs = [v, u] ∧ SecV K H v xs pts S ∧ Tp K H u q ∧ PtL n q x y w ∧ n ≤ CB ∧ ∀ H', Same H H' → Q (.bl (insG pts q)) H'
section
variable {P' : Program} {w : World} {K :
      PySem.W.Frag} {mg : Str → Option Value} {base : Heap}
abbrev n_si : List Str := ["section", "point", "line"]
abbrev p_si : List Str := ["section", "point"]
end
end K05
namespace K05
open PySem L2 Ur Hull
theorem sid_ex {a b c : List Int} {n m l : Nat} {x y w u v z p q r : Int} (A : PtL n a x y w) (B : PtL m b u v z) (C : PtL l c p q r) : sidL a b c = sgn (-(exL (lnL a b) c)) := by
  rw [A.eq, B.eq, C.eq]
  show sgn _ = sgn (-((v * w - y * z) * p + (x * z - u * w) * q - (x * v - u * y) * r))
  congr 1
  grind
theorem sgn_nn (n : Int) : 0 ≤ sgn n ↔ 0 ≤ n := by unfold sgn; split <;> (try split) <;> omega
theorem sgn_gt (n : Int) : 0 < sgn n ↔ 0 < n := by unfold sgn; split <;> (try split) <;> omega
theorem exL_q {l r : List Int} {X Y W : Int} (hl : ∃ a b h : Int, l = [a, b, h]) (h : Q3 r X Y W) : ∃ (a b h' g : Int), l = [a, b, h'] ∧ 0 < g ∧ g * exL l r = a * X + b * Y - h' * W := by
  obtain ⟨a, b, h', rfl⟩ := hl
  obtain ⟨g, p, q, t, g0, e1, e2, e3, rfl, _⟩ := h.red
  refine ⟨a, b, h', g, rfl, g0, ?_⟩
  show g * (a * p + b * q - h' * t) = _
  rw [e1, e2, e3]
  grind
theorem lnL_3 {p q : List Int} {n m : Nat} (hp : Pt3 n p) (hq : Pt3 m q) : ∃ a b h : Int, lnL p q = [a, b, h] := by
  obtain ⟨x, y, w, A⟩ := hp
  obtain ⟨u, v, z, B⟩ := hq
  rw [A.eq, B.eq]
  exact ⟨_, _, _, rfl⟩
theorem bef_nx {n k : Nat} (h : k < n) : befI n (nx n k) = k := by
  unfold befI nx
  rw [mod2 (by omega)]
  split <;> split <;> omega
theorem nx_bef {n i : Nat} (h : i < n) : nx n (befI n i) = i ∧ befI n i < n := by
  unfold befI nx
  constructor
  · split
    · rw [mod2 (by omega)]; split <;> omega
    · rw [mod2 (by omega)]; split <;> omega
  · split <;> omega
/-- the line along edge k -/
def edLn (pts : List (List Int)) (k : Nat) : List Int := lnL (ptA pts k) (ptA pts (nx pts.length k))
theorem all_ed {pts : List (List Int)} (h3 : 3 ≤ pts.length) (f : List Int → Bool) : ((hpL pts).map f).all id = true ↔ ∀ k, k < pts.length → f (edLn pts k) = true := by
  have eh : hpL pts = (List.range pts.length).map fun i => lnAt pts i := by
    match pts, h3 with
    | a :: b :: c :: r, _ => rfl
  rw [eh, List.all_eq_true]
  constructor
  · intro h k hk
    have := h (f (lnAt pts (nx pts.length k))) (List.mem_map.mpr ⟨_, List.mem_map.mpr ⟨_, List.mem_range.mpr (nx_lt hk), rfl⟩, rfl⟩)
    unfold lnAt at this
    rw [bef_nx hk] at this
    exact this
  · intro h x hx
    obtain ⟨l, hl, rfl⟩ := List.mem_map.mp hx
    obtain ⟨i, hi, rfl⟩ := List.mem_map.mp hl
    rw [List.mem_range] at hi
    have := h (befI pts.length i) (nx_bef hi).2
    unfold edLn at this
    rw [(nx_bef hi).1] at this
    exact this
theorem has_iff {pts : List (List Int)} (h3 : 3 ≤ pts.length) (q : List Int) : hasG pts q = true ↔ ∀ k, k < pts.length → exL (edLn pts k) q ≤ 0 := by
  unfold hasG
  rw [all_ed h3]
  exact ⟨fun h k hk => of_decide_eq_true (h k hk), fun h k hk => decide_eq_true (h k hk)⟩
theorem ins_iff {pts : List (List Int)} (h3 : 3 ≤ pts.length) (q : List Int) : insG pts q = true ↔ ∀ k, k < pts.length → exL (edLn pts k) q < 0 := by
  unfold insG
  rw [all_ed h3]
  exact ⟨fun h k hk => of_decide_eq_true (h k hk), fun h k hk => decide_eq_true (h k hk)⟩
/-- the law's row of sides -/
def rowS (pts : List (List Int)) (q : List Int) : List Int := (List.range pts.length).map fun k => sidL (ptA pts k) (ptA pts (nx pts.length k)) q
theorem rowS_at {pts : List (List Int)} {S : Nat} {q : List Int} {n : Nat} {x y w : Int} (hT : Tny pts S) (Q : PtL n q x y w) {k : Nat} (hk : k < pts.length) : sidL (ptA pts k) (ptA pts (nx pts.length k)) q = sgn (-(exL (edLn pts k) q)) := by
  obtain ⟨_, _, _, A⟩ := ptA_ok hT hk
  obtain ⟨_, _, _, B⟩ := ptA_ok hT (nx_lt hk)
  exact sid_ex A B Q
theorem min_has {pts : List (List Int)} {S : Nat} {q : List Int} {n : Nat} {x y w m : Int} (hT : Tny pts S) (h3 : 3 ≤ pts.length) (Q : PtL n q x y w) (hm : m ∈ rowS pts q) (hl : ∀ y ∈ rowS pts q, m ≤ y) : decide (0 ≤ m) = hasG pts q ∧ decide (0 < m) = insG pts q := by
  have at_ : ∀ {k}, k < pts.length → m ≤ sgn (-(exL (edLn pts k) q)) := fun {k} hk => by
    rw [← rowS_at hT Q hk]
    exact hl _ (List.mem_map.mpr ⟨k, List.mem_range.mpr hk, rfl⟩)
  obtain ⟨k0, hk0, e0⟩ := List.mem_map.mp hm
  rw [List.mem_range] at hk0
  rw [rowS_at hT Q hk0] at e0
  constructor
  · cases hh : hasG pts q with
    | true =>
      have := (has_iff h3 q).mp hh k0 hk0
      refine decide_eq_true ?_
      rw [← e0, sgn_nn]
      omega
    | false =>
      refine decide_eq_false fun hm0 => ?_
      have : hasG pts q = true := (has_iff h3 q).mpr fun k hk => by
        have := at_ hk
        have := (sgn_nn (-(exL (edLn pts k) q))).mp (by omega)
        omega
      rw [hh] at this
      cases this
  · cases hh : insG pts q with
    | true =>
      have := (ins_iff h3 q).mp hh k0 hk0
      refine decide_eq_true ?_
      rw [← e0, sgn_gt]
      omega
    | false =>
      refine decide_eq_false fun hm0 => ?_
      have : insG pts q = true := (ins_iff h3 q).mpr fun k hk => by
        have := at_ hk
        have := (sgn_gt (-(exL (edLn pts k) q))).mp (by omega)
        omega
      rw [hh] at this
      cases this
/-- a row begun elsewhere, as two parts -/
theorem row_split {l : List P} {a b : Nat} (ha : a < l.length) (h2 : 2 ≤ l.length) (hb : b = nx l.length a) : ∃ A B, (l = A ++ nthP l a :: nthP l b :: B) ∨ (∃ C, l = nthP l b :: (C ++ [nthP l a])) := by
  have hb' : b < l.length := hb ▸ nx_lt ha
  have g : ∀ {k}, (hk : k < l.length) → nthP l k = l[k] := fun {k} hk => by
    show l.getD k (0, 0) = _
    rw [List.getD_eq_getElem?_getD, List.getElem?_eq_getElem hk]
    rfl
  by_cases c : a + 1 < l.length
  · have eb : b = a + 1 := by rw [hb]; unfold nx; rw [Nat.mod_eq_of_lt c]
    subst eb
    refine ⟨l.take a, l.drop (a + 2), Or.inl ?_⟩
    rw [g ha, g c, ← List.drop_eq_getElem_cons c, ← List.drop_eq_getElem_cons ha, List.take_append_drop]
  · have ea : a = l.length - 1 := by omega
    have eb : b = 0 := by
      rw [hb]
      unfold nx
      rw [show a + 1 = l.length by omega, Nat.mod_self]
    subst eb
    refine ⟨[], [], Or.inr ?_⟩
    obtain ⟨x, r, el⟩ : ∃ x r, l = x :: r := by
      cases l with
      | nil => simp at h2
      | cons x r =>
            exact ⟨x, r, rfl⟩
    subst el
    have hr : r ≠ [] := fun e => by rw [e] at h2; simp at h2
    refine ⟨r.dropLast, ?_⟩
    have e1 : nthP (x :: r) 0 = x := rfl
    have e2 : nthP (x :: r) a = r.getLast hr := by
      rw [g ha]
      have : (x :: r)[a] = (x :: r).getLast (List.cons_ne_nil _ _) := by
        rw [List.getLast_eq_getElem]
        congr 1
      rw [this, List.getLast_cons hr]
    rw [e1, e2, List.dropLast_concat_getLast hr]
/-- all corners lie to the left of an edge -/
theorem edge_all {l : List P} (hT : Tri l) {a : Nat} (ha : a < l.length) (h2 : 2 ≤ l.length) {q : P} (hq : q ∈ l) : 0 ≤ tt (nthP l a) (nthP l (nx l.length a)) q := by
  obtain ⟨A, B, e | ⟨C, e⟩⟩ := row_split ha h2 rfl
  · have hT' := hT
    have hq' := hq
    generalize nthP l a = p at *
    generalize nthP l (nx l.length a) = r at *
    rw [e] at hT' hq'
    exact edge_left hT' hq'
  · have hT' := hT
    have hq' := hq
    generalize nthP l a = p at *
    generalize nthP l (nx l.length a) = r at *
    rw [e] at hT' hq'
    have e2 : (p :: r :: C : List P) = [p] ++ (r :: C) := rfl
    have h3 : Tri ([] ++ p :: r :: C) := by
      have : Tri ((r :: C) ++ [p]) := hT'
      show Tri ([p] ++ (r :: C))
      exact tri_rot (A := r :: C) (B := [p]) this
    refine edge_left (B := []) (A := C) h3 ?_
    simp only [List.mem_cons, List.mem_append, List.nil_append, List.not_mem_nil, or_false] at hq' ⊢
    rcases hq' with k | k | k
    · exact Or.inr (Or.inl k)
    · exact Or.inr (Or.inr k)
    · exact Or.inl k
theorem ed_tt {pts : List (List Int)} {S N k : Nat} {q : List Int} {A B : Int} (h : Sec pts S) (hk : k < pts.length) (hq : Q3 q A B (S : Nat)) : exL (edLn pts k) q ≤ 0 ↔ 0 ≤ tt (fsc S (ptA pts k)) (fsc S (ptA pts (nx pts.length k))) (A, B) :=
  ex_tt (Q3.of_pk h.pol.scb.s0 (ptA_pk h hk)) (Q3.of_pk h.pol.scb.s0 (ptA_pk h (nx_lt hk))) hq
/-- a corner is held -/
theorem has_corner {pts : List (List Int)} {S k : Nat} (h : Sec pts S) (hk : k < pts.length) : hasG pts (ptA pts k) = true := by
  have h3 := h.three
  refine (has_iff h3 _).mpr fun j hj => ?_
  refine (ed_tt (N := S) h hj (Q3.of_pk h.pol.scb.s0 (ptA_pk h hk))).mpr ?_
  have ll : (pts.map (fsc S)).length = pts.length := List.length_map ..
  have := edge_all h.tri.1 (a := j) (q := fsc S (ptA pts k)) (by rw [ll]; exact hj) (by rw [ll]; omega) (List.mem_map_of_mem (List.mem_of_getElem? (ptA_at hk)))
  rw [ll, nth_map hj, nth_map (nx_lt hj)] at this
  exact this
/-- between two held points -/
theorem has_near {pts : List (List Int)} {S : Nat} {a b f : List Int} {n m : Nat} {x y w u v z t e : Int} (hT : Tny pts S) (h3 : 3 ≤ pts.length) (A : PtL n a x y w) (B : PtL m b u v z) (F : Shr f t e) (ha : hasG pts a = true) (hb : hasG pts b = true) : hasG pts (sumL a (byL (wayL a b) f)) = true := by
  refine (has_iff h3 _).mpr fun k hk => ?_
  have h1 := (has_iff h3 _).mp ha k hk
  have h2 := (has_iff h3 _).mp hb k hk
  have l3 : ∃ a b h : Int, edLn pts k = [a, b, h] := lnL_3 (ptA_ok hT hk) (ptA_ok hT (nx_lt hk))
  have QA := Q3.of_pt A
  have QB := Q3.of_pt B
  have QZ := QA.sum ((QA.way QB).by_ (Q2.of_fr F.fr))
  obtain ⟨i, j, h', g, el, g0, eg⟩ := exL_q l3 QZ
  have e1 : exL (edLn pts k) a = i * x + j * y - h' * w := by rw [el, A.eq]; rfl
  have e2 : exL (edLn pts k) b = i * u + j * v - h' * z := by rw [el, B.eq]; rfl
  have key : g * exL (edLn pts k) (sumL a (byL (wayL a b) f)) = (w * z * (e - t)) * (i * x + j * y - h' * w) + (t * (w * w)) * (i * u + j * v - h' * z) := by rw [eg]; grind
  rw [← e1, ← e2] at key
  have p1 : 0 ≤ (w * z * (e - t)) * (-(exL (edLn pts k) a)) := Int.mul_nonneg (Int.mul_nonneg (Int.mul_nonneg (Int.le_of_lt A.pos) (Int.le_of_lt B.pos)) (by have := F.t1; omega)) (by omega)
  have p2 : 0 ≤ (t * (w * w)) * (-(exL (edLn pts k) b)) := Int.mul_nonneg (Int.mul_nonneg F.t0 (Int.mul_nonneg (Int.le_of_lt A.pos) (Int.le_of_lt A.pos))) (by omega)
  rw [Int.mul_neg] at p1 p2
  generalize exL (edLn pts k) (sumL a (byL (wayL a b) f)) = E at *
  refine Int.not_lt.mp fun hE => ?_
  have := Int.mul_pos g0 hE
  omega
/-- a point holds just itself -/
theorem has_one {p q : List Int} {n m : Nat} {x y w u v z : Int} (A : PtL n p x y w) (B : PtL m q u v z) : hasG [p] q = decide (q = p) := by
  have w0 := A.pos
  have z0 := B.pos
  have e : hasG [p] q = (decide (w * u + 0 * v - x * z ≤ 0) && (decide (-w * u + 0 * v - -x * z ≤ 0) && (decide (0 * u + w * v - y * z ≤ 0) && (decide (0 * u + -w * v - -y * z ≤ 0) && true)))) := by
    rw [A.eq, B.eq]
    rfl
  have i1 : (q = p) ↔ (w * u = x * z ∧ w * v = y * z) := by
    constructor
    · intro e
      have e' := e
      rw [A.eq, B.eq] at e'
      have e1 := (List.cons.inj e').1
      have e2 := (List.cons.inj (List.cons.inj e').2).1
      have e3 := (List.cons.inj (List.cons.inj (List.cons.inj e').2).2).1
      subst e1 e2 e3
      exact ⟨Int.mul_comm _ _, Int.mul_comm _ _⟩
    · rintro ⟨e1, e2⟩
      have qa := (Q3.of_pt A).up (k := z) z0 rfl rfl rfl
      have qb := (Q3.of_pt B).up (k := w) w0 rfl rfl rfl
      rw [show z * x = w * u by rw [e1, Int.mul_comm], show z * y = w * v by rw [e2, Int.mul_comm], Int.mul_comm z w] at qa
      exact qb.same qa
  rw [e]
  by_cases c : q = p
  · obtain ⟨e1, e2⟩ := i1.mp c
    rw [decide_eq_true c, decide_eq_true (by rw [e1]; omega), decide_eq_true (by rw [Int.neg_mul, Int.neg_mul, e1]; omega), decide_eq_true (by rw [e2]; omega), decide_eq_true (by rw [Int.neg_mul, Int.neg_mul, e2]; omega)]
    rfl
  · rw [decide_eq_false c]
    have nn : ¬ (w * u = x * z ∧ w * v = y * z) := fun k => c (i1.mpr k)
    rw [Int.neg_mul, Int.neg_mul, Int.neg_mul, Int.neg_mul]
    generalize w * u = a1 at *
    generalize x * z = a2 at *
    generalize w * v = b1 at *
    generalize y * z = b2 at *
    by_cases c1 : a1 = a2
    · by_cases c2 : b1 = b2
      · exact (nn ⟨c1, c2⟩).elim
      · rcases Int.lt_or_gt_of_ne c2 with k | k
        · rw [decide_eq_false (p := 0 * u + -b1 - -b2 ≤ 0) (by omega)]
          simp
        · rw [decide_eq_false (p := 0 * u + b1 - b2 ≤ 0) (by omega)]
          simp
    · rcases Int.lt_or_gt_of_ne c1 with k | k
      · rw [decide_eq_false (p := -a1 + 0 * v - -a2 ≤ 0) (by omega)]
        simp
      · rw [decide_eq_false (p := a1 + 0 * v - a2 ≤ 0) (by omega)]
        simp
theorem end_dot {p q s : List Int} {X Y X' Y' A B N : Int} (hp : Q3 p X Y N) (hq : Q3 q X' Y' N) (hs : Q3 s A B N) : exL (endL p q) s ≤ 0 ↔ 0 ≤ dot (mi (X', Y') (X, Y)) (mi (A, B) (X, Y)) := by
  have hN := hp.pos
  have hw := hp.way hq
  obtain ⟨g, x, y, r, g0, e1, e2, e3, ep, r0⟩ := hp.red
  obtain ⟨gw, a, b, c, gw0, w1, w2, w3, ew, c0⟩ := hw.red
  obtain ⟨g2, i, j, k, g20, f1, f2, f3, es, k0⟩ := hs.red
  have ee : endL p q = [-a * r, -b * r, -a * x - b * y] := by
    rw [ep] at ew ⊢
    show (match wayL [x, y, r] q with | [a, b, _] => [-a * r, -b * r, -a * x - b * y] | _ => []) = _
    rw [ew]
  have hval : exL (endL p q) s = -a * r * i + -b * r * j - (-a * x - b * y) * k := by rw [ee, es]; rfl
  rw [hval]
  have hG : 0 < g * gw * g2 := Int.mul_pos (Int.mul_pos g0 gw0) g20
  have key : (g * gw * g2) * (-a * r * i + -b * r * j - (-a * x - b * y) * k) = -(N * N * dot (mi (X', Y') (X, Y)) (mi (A, B) (X, Y))) := by
    have h1 : (g * gw * g2) * (-a * r * i + -b * r * j - (-a * x - b * y) * k) = -(gw * a) * (g * r) * (g2 * i) - (gw * b) * (g * r) * (g2 * j) + ((gw * a) * (g * x) + (gw * b) * (g * y)) * (g2 * k) := by grind
    rw [h1, ← w1, ← w2, ← e1, ← e2, ← e3, ← f1, ← f2, ← f3]
    unfold dot mi
    simp only
    grind
  generalize -a * r * i + -b * r * j - (-a * x - b * y) * k = E at *
  generalize dot (mi (X', Y') (X, Y)) (mi (A, B) (X, Y)) = T at *
  have hNN : 0 < N * N := Int.mul_pos hN hN
  constructor
  · intro h
    refine Int.not_lt.mp fun hn => ?_
    have h1 := Int.mul_pos hNN (by omega : 0 < -T)
    rw [Int.mul_neg] at h1
    have h2 := Int.mul_nonneg (Int.le_of_lt hG) (by omega : 0 ≤ -E)
    rw [Int.mul_neg] at h2
    omega
  · intro h
    refine Int.not_lt.mp fun hn => ?_
    have h1 := Int.mul_pos hG hn
    have h2 := Int.mul_nonneg (Int.le_of_lt hNN) h
    omega
/-- a stretch holds just the points that leave its hull as it is -/
theorem has_rod {N : Nat} {p q s : List Int} (h0 : 0 < N) (hp : Pk N p) (hq : Pk N q) (hs : Pk N s) (hlt : lt (fsc N p) (fsc N q)) : hasG [p, q] s = decide (hullL N [p, q, s] = [p, q]) := by
  have Qp := Q3.of_pk h0 hp
  have Qq := Q3.of_pk h0 hq
  have Qs := Q3.of_pk h0 hs
  have e : hasG [p, q] s = (decide (exL (lnL q p) s ≤ 0) && (decide (exL (lnL p q) s ≤ 0) && (decide (exL (endL p q) s ≤ 0) && (decide (exL (endL q p) s ≤ 0) && true)))) := rfl
  have t1 : tt (fsc N q) (fsc N p) (fsc N s) = - tt (fsc N p) (fsc N q) (fsc N s) := by unfold tt; grind
  have c1 := ex_tt Qq Qp Qs
  have c2 := ex_tt Qp Qq Qs
  have c3 := end_dot Qp Qq Qs
  have c4 := end_dot Qq Qp Qs
  have inj : hullL N [p, q, s] = [p, q] ↔ hl [fsc N p, fsc N q, fsc N s] = [fsc N p, fsc N q] := by
    have hk : ∀ r ∈ [p, q, s], Pk N r := fun r hr => by
      simp only [List.mem_cons, List.not_mem_nil, or_false] at hr
      rcases hr with rfl | rfl | rfl <;> assumption
    have hm := hullL_map h0 hk
    constructor
    · intro e
      rw [e] at hm
      exact hm.symm
    · intro e
      unfold hullL
      show (hl [fsc N p, fsc N q, fsc N s]).map _ = _
      rw [e]
      show [thin [(fsc N p).1, (fsc N p).2, (N : Nat)], thin [(fsc N q).1, (fsc N q).2, (N : Nat)]] = _
      rw [pk_back h0 hp, pk_back h0 hq]
  have all : hullL N [p, q, s] = [p, q] ↔ (tt (fsc N p) (fsc N q) (fsc N s) = 0 ∧ 0 ≤ dot (mi (fsc N q) (fsc N p)) (mi (fsc N s) (fsc N p)) ∧ 0 ≤ dot (mi (fsc N p) (fsc N q)) (mi (fsc N s) (fsc N q))) := by
    rw [inj, hl_rod hlt, rod_dot hlt]
  rw [e]
  by_cases c : hullL N [p, q, s] = [p, q]
  · obtain ⟨z, d1, d2⟩ := all.mp c
    rw [decide_eq_true c, decide_eq_true (c1.mpr (by show 0 ≤ tt (fsc N q) (fsc N p) (fsc N s); rw [t1]; omega)), decide_eq_true (c2.mpr (by show 0 ≤ tt (fsc N p) (fsc N q) (fsc N s); omega)), decide_eq_true (c3.mpr d1), decide_eq_true (c4.mpr d2)]
    rfl
  · rw [decide_eq_false c]
    cases b1 : decide (exL (lnL q p) s ≤ 0) with
    | false => rfl
    | true =>
      cases b2 : decide (exL (lnL p q) s ≤ 0) with
      | false => rfl
      | true =>
        cases b3 : decide (exL (endL p q) s ≤ 0) with
        | false => rfl
        | true =>
          cases b4 : decide (exL (endL q p) s ≤ 0) with
          | false => rfl
          | true =>
            have k1 : 0 ≤ tt (fsc N q) (fsc N p) (fsc N s) := c1.mp (of_decide_eq_true b1)
            have k2 : 0 ≤ tt (fsc N p) (fsc N q) (fsc N s) := c2.mp (of_decide_eq_true b2)
            rw [t1] at k1
            exact (c (all.mpr ⟨by omega, c3.mp (of_decide_eq_true b3), c4.mp (of_decide_eq_true b4)⟩)).elim
/-- two corners in order -/
theorem rod_two {N : Nat} {p q : List Int} (h0 : 0 < N) (hp : Pk N p) (hq : Pk N q) (hn : fsc N p ≠ fsc N q) : ∃ r0 r1, hullL N [p, q] = [r0, r1] ∧ (r0 = p ∧ r1 = q ∨ r0 = q ∧ r1 = p) ∧ lt (fsc N r0) (fsc N r1) := by
  have back : ∀ a b : List Int, Pk N a → Pk N b → hl [fsc N p, fsc N q] = [fsc N a, fsc N b] → hullL N [p, q] = [a, b] := fun a b ha hb e => by
    unfold hullL
    show (hl [fsc N p, fsc N q]).map _ = _
    rw [e]
    show [thin [(fsc N a).1, (fsc N a).2, (N : Nat)], thin [(fsc N b).1, (fsc N b).2, (N : Nat)]] = _
    rw [pk_back h0 ha, pk_back h0 hb]
  have ea : hl [fsc N p, fsc N q] = hull gone (ins (fsc N p) [fsc N q]) := rfl
  rcases lt_3w (fsc N p) (fsc N q) with c | c | c
  · refine ⟨p, q, back p q hp hq ?_, Or.inl ⟨rfl, rfl⟩, c⟩
    rw [ea]
    have : ins (fsc N p) [fsc N q] = [fsc N p, fsc N q] := by unfold ins; rw [if_pos c]
    rw [this, hull2]
  · exact (hn c).elim
  · refine ⟨q, p, back q p hq hp ?_, Or.inr ⟨rfl, rfl⟩, c⟩
    rw [ea]
    have : ins (fsc N p) [fsc N q] = [fsc N q, fsc N p] := by unfold ins; rw [if_neg (lt_asym c), if_neg hn]; rfl
    rw [this, hull2]
end K05
namespace Ur
open PySem L2 PyProof.Rows
section
variable {K : PySem.W.Frag} {a : Addr} {xs : List V} {tl te : TE} {tt : TT} {vs : List Nat} {j : Nat} {σ : L2.St} {H : Hp} {Q : VK}
/-- [truth for x in l] -/
theorem lcB (g : Nat → Bool) (hx : ∀ R : VK, R (.ref a) H → tl σ H R) (hs : H a = some (.lst xs)) (hz : xs.length ≤ 100000) (hw : ∀ x, wipe ((wipe σ vs).set j (some x)) vs = wipe σ vs)
    (he : ∀ (i : Nat) x H3, xs[i]? = some x → Same H H3 → ∀ Q' : VK, (∀ H4, Same H3 H4 → Q' (.bl (g i)) H4) → te ((wipe σ vs).set j (some x)) H3 Q')
    (hq : ∀ D H', Same H H' → H' D = some (.lst (((List.range xs.length).map g).map V.bl)) → Q (.ref D) H') : tLc (iList K tl) (gName j) tYes te vs σ H Q :=
  lcLx (K := K) (n := xs.length) (fun ys _ => ys = xs) g (fun R r => hx _ (r a xs H (Same.refl _) hs rfl rfl)) hz hw (fun ys H1 s1 _ e i x H3 hi s3 Q' q' => he i x H3 (e ▸ hi) (s1.trans s3) Q' q') hq
/-- rows made so far -/
structure RowsM (H : Hp) (f : Nat → List V) (D : Addr) (i : Nat) (H' : Hp) : Prop where
  new : H D = none
  same : Same H H'
  held : ∃ ys, H' D = some (.lst ys) ∧ ys.length = i ∧ ∀ (k : Nat) (y : V), ys[k]? = some y → ∃ l, y = .ref l ∧ l ≠ D ∧ H' l = some (.lst (f k))
/-- [a new list for x in l] -/
theorem lcRows (f : Nat → List V) (hx : ∀ R : VK, R (.ref a) H → tl σ H R) (hs : SqL K H a xs) (hz : xs.length ≤ 100000) (hw : ∀ x, wipe ((wipe σ vs).set j (some x)) vs = wipe σ vs)
    (he : ∀ (i : Nat) x H3, xs[i]? = some x → Same H H3 → ∀ Q' : VK, (∀ l H4, Same H3 H4 → H3 l = none → H4 l = some (.lst (f i)) → Q' (.ref l) H4) → te ((wipe σ vs).set j (some x)) H3 Q')
    (hq : ∀ D ys H', Same H H' → H' D = some (.lst ys) → ys.length = xs.length → (∀ (k : Nat) (y : V), ys[k]? = some y → ∃ l, y = .ref l ∧ H' l = some (.lst (f k))) → Q (.ref D) H') : tLc (iList K tl) (gName j) tYes te vs σ H Q := by
  refine hx _ ⟨a, rfl, ⟨xs, hs⟩, fun D hD => ?_⟩
  refine lc_list (xs := xs) (RowsM H f D) ⟨hD, same_new hD, [], upd_same, rfl, fun k y e => by cases e⟩ (fun i H' _ m => m.same.seq hs) (fun i x H' hi m => ⟨hw x, ?_⟩) (fun H' ⟨hn, sm, ys, h1, h2, h3⟩ => hq D ys H' sm h1 h2 fun k y e => let ⟨l, e1, _, e2⟩ := h3 k y e; ⟨l, e1, e2⟩)
  have hl := (List.getElem?_eq_some_iff.mp hi).1
  obtain ⟨hn, sm, ys, h1, h2, h3⟩ := m
  unfold tYes
  dsimp only
  rw [if_pos rfl]
  refine he i x H' hi sm _ fun l H4 s4 hl4 g4 => ?_
  have ne : l ≠ D := fun e => by rw [e, h1] at hl4; cases hl4
  refine ⟨ys, s4 _ _ h1, by rw [h2]; exact Nat.lt_of_lt_of_le (by omega : i < 100001) (by decide), hn, same_own (sm.trans s4) hn, ys ++ [.ref l], upd_same, by rw [List.length_append, List.length_singleton, h2], fun k y e => ?_⟩
  by_cases hk : k < ys.length
  · rw [List.getElem?_append_left hk] at e
    obtain ⟨l', e1, e2, e3⟩ := h3 k y e
    exact ⟨l', e1, e2, by rw [upd_ne e2]; exact s4 _ _ e3⟩
  · rw [List.getElem?_append_right (by omega)] at e
    have ek : k - ys.length = 0 := by
      cases hh : k - ys.length with
      | zero => rfl
      | succ z => rw [hh] at e; cases e
    rw [ek] at e
    have ek2 : k = i := by
      have hk3 := (Nat.sub_eq_zero_iff_le.mp ek)
      omega
    subst ek2
    exact ⟨l, (Option.some.inj e).symm, ne, by rw [upd_ne ne]; exact g4⟩
/-- [x of k for k in range(n) if test of k] -/
theorem lcRF {ta : TA} {n : Nat} (b : Nat → Bool) (x : Nat → V) (hx : ∀ R : List V → Hp → Prop, R [.int (n : Nat)] H → ta σ H R) (hz : n ≤ 100000) (hw : ∀ z, wipe ((wipe σ vs).set j (some z)) vs = wipe σ vs)
    (ht : ∀ (i : Nat) (H3 : Hp), i < n → Same H H3 → ∀ Q' : Bool → Hp → Prop, Q' (b i) H3 → tt ((wipe σ vs).set j (some (.int (0 + (i : Int))))) H3 Q')
    (he : ∀ (i : Nat) (H3 : Hp), i < n → Same H H3 → ∀ Q' : VK, Q' (x i) H3 → te ((wipe σ vs).set j (some (.int (0 + (i : Int))))) H3 Q')
    (hq : ∀ D H', Same H H' → H' D = some (.lst (((List.range n).filter b).map x)) → Q (.ref D) H') : tLc (iRng1 ta) (gName j) tt te vs σ H Q := by
  refine hx _ ⟨(n : Int), rfl, by omega, by omega, fun D hD => ?_⟩
  refine lc_range (lo := 0) (n := n) (fun i H' => H D = none ∧ Same H H' ∧ H' D = some (.lst (((List.range i).filter b).map x))) ⟨hD, same_new hD, upd_same⟩ (fun i H' hi m => ⟨hw _, ?_⟩) (fun H' m => hq D H' m.2.1 m.2.2)
  obtain ⟨hn, sm, hh⟩ := m
  refine ht i H' hi sm _ ?_
  have er : (List.range (i + 1)).filter b = (List.range i).filter b ++ (if b i = true then [i] else []) := by
    rw [List.range_succ, List.filter_append]
    congr 1
    by_cases c : b i = true
    · rw [if_pos c, List.filter_cons, if_pos c]; rfl
    · rw [if_neg c, List.filter_cons, if_neg c]; rfl
  cases hb : b i with
  | true =>
    rw [if_pos rfl]
    refine he i H' hi sm _ ⟨_, hh, ?_, hn, same_own sm hn, ?_⟩
    · rw [List.length_map]
      have := List.length_filter_le b (List.range i)
      rw [List.length_range] at this
      exact Nat.lt_of_le_of_lt (by omega : _ ≤ 100000) (by decide)
    · rw [upd_same, er, hb, if_pos rfl, List.map_append]
      rfl
  | false =>
    rw [if_neg
          Bool.false_ne_true]
    refine ⟨hn, sm, ?_⟩
    rw [er, hb, if_neg Bool.false_ne_true, List.append_nil]
    exact hh
end
end Ur
namespace K05
open PySem L2 Ur Hull
/-! ### rows of truths -/
theorem dpAll_bools {K : PySem.W.Frag} {H : Hp} : ∀ bs : List Bool, DpAll K H (bs.map V.bl) (bs.map PyData.bool)
  | [] => .nil
  | b :: r => .cons (.bl b) (dpAll_bools r)
theorem big_bool (b : Bool) : Big (.bool b) 6 0 := by
  cases b <;> exact ⟨by decide, by decide, rfl, rfl, Nat.le_refl _⟩
theorem big_bools : ∀ bs : List Bool, BigA (bs.map PyData.bool) (7 * bs.length) 0
  | [] => .nil
  | b :: r => by
    have := BigA.cons (big_bool b) (big_bools r)
    have e : 7 * (b :: r).length = 6 + 1 + 7 * r.length := by rw [List.length_cons]; omega
    rw [e]
    exact this
/-- what repr of a row of truths asks -/
theorem bools_facts {bs : List Bool} (h : bs.length ≤ 1000) : (PyData.list (bs.map .bool)).showable = true ∧ (PyData.list (bs.map .bool)).hasDict = false ∧ (PyData.list (bs.map .bool)).shown.length ≤ sizeLine ∧ (PyData.list (bs.map .bool)).depth ≤ 60 :=
  big_facts (Big.lst (big_bools bs)) (by omega) (by decide)
theorem dp_bools {K : PySem.W.Frag} {H : Hp} {D : Addr} {bs : List Bool} (h : H D = some (.lst (bs.map V.bl))) : Dp K H (.ref D) (.list (bs.map .bool)) := dp_list h (dpAll_bools bs)
/-- truths of the points, by their numbers -/
theorem by_row {qs : List (List Int)} {n : Nat} (h : n = qs.length) (g : List Int → Bool) : ((List.range n).map fun i => g (qs.getD i [])) = qs.map g := by
  subst h
  refine List.ext_getElem? fun i => ?_
  rw [List.getElem?_map,
        List.getElem?_map]
  by_cases hi : i < qs.length
  · rw [List.getElem?_range hi, List.getElem?_eq_getElem hi]
    show some (g (qs.getD i [])) = some (g qs[i])
    rw [List.getD_eq_getElem?_getD,
          List.getElem?_eq_getElem hi]
    rfl
  · rw [List.getElem?_eq_none (by rw [List.length_range]; omega), List.getElem?_eq_none (by omega)]
    rfl
theorem al_getD {K : PySem.W.Frag} {H : Hp} {ys : List V} {qs : List (List Int)} (h : Al (Tp K H) ys qs) {i : Nat} {y : V} (e : ys[i]? = some y) : Tp K H y (qs.getD i []) ∧ qs.getD i [] ∈ qs := by
  obtain ⟨p, hp, t⟩ := h.get e
  have : qs.getD i [] = p := by rw [List.getD_eq_getElem?_getD, hp]; rfl
  rw [this]
  exact ⟨t, List.mem_of_getElem? hp⟩
end K05

namespace K05
open PySem L2 Ur
abbrev sLWhole : Stmt := top 36
section
variable {P : Program} {w : World} {K :
      PySem.W.Frag} {mg : Str → Option Value} {base : Heap}
/-! ### gcds -/
/-! ### whole numbers -/
abbrev n_law_is_whole : List Str := ["_law_number"]
theorem sc_law_is_whole : FnScope n_law_is_whole n_law_is_whole (defScope sLWhole) := ⟨rfl, rfl, rfl, by decide +kernel, rfl, by decide +kernel, by decide +kernel⟩
theorem ok_lwhole {f : Addr} {fd : FuncData} (F : Fun K "_law_is_whole" "_law_is_whole" sLWhole f fd) (T : Bl mg) : FnOk P w K mg base CX0 1 f fd n_law_is_whole (spWhole K) := by
  refine F.ok sc_law_is_whole (fun vs H Q E h => ?_) (fun cdv A outer s H vs Q E hr h => ?_)
  · obtain ⟨x, k, rfl, _⟩ := h
    rfl
  · obtain ⟨x, k, rfl, hx, q⟩ := h
    exact ⟨_, (pss_one (ps_ret (pe_and (pe_callB call_isi (by rfl) T.isinstance PyProof.Rows.boot_isinstance (pa_cons (pv 0) (pa_cons (pe_bltn (v := .ty "int") (by rfl) T.int PyProof.Rows.boot_int rfl) pa_nil))) (pe_one (pe_not (pe_callB call_isi (by rfl) T.isinstance PyProof.Rows.boot_isinstance (pa_cons (pv 0) (pa_cons (pe_bltn (v := .ty "bool") (by rfl) T.bool PyProof.Rows.boot_bool rfl) pa_nil)))))))), whole_read hx q⟩
end
end K05
namespace K05
open PySem L2 Ur
abbrev sAre : Stmt := top 37
abbrev sIsSpot : Stmt := top 38
/-! ### plain -/
section
variable {P : Program} {w : World} {K :
      PySem.W.Frag} {mg : Str → Option Value} {base : Heap}
abbrev n_law_are_whole : List Str := ["_law_row", "_law_many", "_law_number"]
abbrev p_law_are_whole : List Str := ["_law_row", "_law_many"]
theorem sc_law_are_whole : FnScope n_law_are_whole p_law_are_whole (defScope sAre) := ⟨rfl, rfl, rfl, by decide +kernel, rfl, by decide +kernel, by decide +kernel⟩
theorem ok_are {f : Addr} {fd : FuncData} (F : Fun K "_law_are_whole" "_law_are_whole" sAre f fd) (T : Bl mg) (H_law_is_whole : Has P w K mg base "_law_is_whole" n_law_is_whole 1 (spWhole K)) : FnOk P w K mg base CX0 2 f fd p_law_are_whole (spAre K) := by
  refine F.ok sc_law_are_whole (fun vs H Q E h => ?_) (fun cdv A outer s H vs Q E hr h => ?_)
  · obtain ⟨x, k, xs, m, rfl, _⟩ := h
    rfl
  · obtain ⟨x, k, xs, m, rfl, A1, q⟩ := h
    have hu : (A.deeper (PyProof.Rows.envOfC "_law_are_whole" (defScope sAre) s.heap.objs.size f cdv)).units + 64 < cLine := hr.units
    refine ⟨_, (pss_one (ps_ret (pe_and (pe_callB call_isi (by rfl) T.isinstance PyProof.Rows.boot_isinstance (pa_cons (pv 0) (pa_cons (pe_bltn (v := .ty "tuple") (by rfl) T.tuple PyProof.Rows.boot_tuple rfl) pa_nil))) (pe_and (pe_cmpR op_eq (pe_callB call_len_seq (by rfl) T.len PySem.boot_len (pa_cons (pv 0) pa_nil)) (pv 1) (nomark _)) (pe_one (pe_cmpR (op_eqD hu) (pe_lc (own := [("_law_number", 2)]) (g := gName 2) rfl sc_law_are_whole.nd (pi_tup (pv 0)) (blkOk_by (N := n_law_are_whole) (sc := defScope sAre) (by decide +kernel)) (fun _ _ _ _ _ => pg_name (i := 2) sc_law_are_whole.nd rfl (Or.inl rfl)) (fun _ _ _ _ _ => pts_one (pt_not (pt_val (pe_has H_law_is_whole (hr.mono (by decide)) (by rfl) (pa_cons (pv 2) pa_nil))))) (fun _ _ _ _ _ => (pv 2))) (pe_lst pa_nil) (nomark _))))))), ?_⟩
    refine ⟨x, rfl, x, _, _, _, _, rfl, .ty "tuple", A1.ty, kit_ty (kd_tup k), _, rfl, ?_⟩
    have no : areB k xs m = false → Q (.bl false) H := fun e => by
      have := q H (Same.refl H)
      rw [e] at this
      exact this
    refine ite2 (fun c => ?_) (fun c => no (kd_ne c))
    obtain ⟨a, rfl, hS, hl, hk, hb⟩ := A1.its (by simpa using c)
    refine ⟨_, rfl, a, _, rfl, Or.inr hS, _, rfl, rfl, _, rfl, ?_⟩
    refine ite2 (fun c2 => ?_) (fun c2 => no ?_)
    · have e2 : xs.length = m := by
        have := V.int.inj (of_decide_eq_true c2)
        omega
      unfold tOp
      refine lcTf (K := K) (a := a) (xs := xs) (fun z => !wh z) (fun R r => ⟨_, rfl, r⟩) hS (by omega) (fun x => rfl) (fun i z H3 hi sm Q' q' => ?_) (fun i z H3 hi sm Q' q' => ⟨z, rfl, q'⟩) (fun D H2 hD sm hy => ?_)
      · obtain ⟨l, hl⟩ := (hk z (List.mem_of_getElem? hi)).kd
        exact ⟨z, rfl, z, l, rfl, ofKd_same sm hl, _, rfl, q' _ (Same.refl _)⟩
      · refine ⟨by show 0 ≤ sizeLine; decide, fun p hp => ?_⟩
        have hpD : D ≠ p := ne_of_none hy hp
        obtain ⟨ds, d1, d2, d3, d4⟩ := its_dat (K := K) (H := upd H2 p (.lst [])) (ys := xs.filter fun z => !wh z) fun y hy => (hk y (List.mem_filter.mp hy).1).same (sm.trans (same_new hp))
        refine ⟨.list ds, .list [], .lst (SqL.of (by rw [upd_ne hpD]; exact hy)) d1, .lst (SqL.of upd_same) .nil, ?_, by decide +kernel, ?_⟩
        · unfold SeqAt.shaped
          show (PyData.canLayAll0 ds && decide (PyData.depthAll ds + 1 ≤ 64)) = true
          rw [d2, decide_eq_true (by omega)]
          rfl
        · have := q _ (sm.trans (same_new (p := p) (o := HO.lst []) hp))
          have e3 : areB k xs m = PyData.eqv (.list ds) (.list []) := by
            unfold areB
            rw [c, decide_eq_true e2, Bool.true_and, Bool.true_and]
            cases ds with
            | nil =>
              have e4 : xs.filter (fun z => !wh z) = [] := List.length_eq_zero_iff.mp (by rw [← d4]; rfl)
              rw [List.filter_eq_nil_iff] at e4
              show xs.all wh = true
              refine List.all_eq_true.mpr fun z hz => ?_
              have := e4 z hz
              simpa using this
            | cons d ds =>
              show xs.all wh = false
              have e4 : 0 < (xs.filter (fun z => !wh z)).length := by rw [← d4]; simp
              obtain ⟨z, hz⟩ := List.exists_mem_of_length_pos e4
              rw [List.mem_filter] at hz
              refine Bool.eq_false_iff.mpr fun h => ?_
              have := List.all_eq_true.mp h z hz.1
              rw [this] at hz
              exact absurd hz.2 (by decide)
          rw [e3] at this
          exact this
    · unfold areB
      have : xs.length ≠ m := fun e => c2 (decide_eq_true (by rw [e]))
      rw [decide_eq_false this, Bool.false_and, Bool.and_false]
abbrev n_lthg : List Str := ["_law_thing"]
theorem sc_isSpot : FnScope n_lthg n_lthg (defScope sIsSpot) := ⟨rfl, rfl, rfl, by decide +kernel, rfl, by decide +kernel, by decide +kernel⟩
theorem ok_isSpot {f : Addr} {fd : FuncData} (F : Fun K "_law_is_spot" "_law_is_spot" sIsSpot f fd) (T : Bl mg) (H_law_are_whole : Has P w K mg base "_law_are_whole" p_law_are_whole 2 (spAre K)) (H_law_thin : Has P w K mg base "_law_thin" p_law_thin 2 (spThin K)) : FnOk P w K mg base CX0 3 f fd n_lthg (spTold K isPt) := by
  refine F.ok sc_isSpot (fun vs H Q E h => ?_) (fun cdv A outer s H vs Q E hr h => ?_)
  · obtain ⟨x, k, xs, rfl, _⟩ := h
    rfl
  · obtain ⟨x, k, xs, rfl, A1, q⟩ := h
    have hu : (A.deeper (PyProof.Rows.envOfC "_law_is_spot" (defScope sIsSpot) s.heap.objs.size f cdv)).units + 64 < cLine := hr.units
    refine ⟨_, (pss_one (ps_ret (pe_and (pe_has H_law_are_whole (hr.mono (by decide)) (by rfl) (pa_cons (pv 0) (pa_cons pe_int pa_nil))) (pe_and (pe_cmpR op_gt (pe_ix ix_tup (pv 0) pe_int (fun _ _ => rfl)) pe_int (nomark _)) (pe_one (pe_cmpR (op_eqD hu) (pe_has H_law_thin (hr.mono (by decide)) (by rfl) (pa_cons (pv 0) pa_nil)) (pv 0) (nomark _))))))), ?_⟩
    refine ⟨x, rfl, x, k, xs, 3, rfl, A1, fun H1 s1 => ⟨_, rfl, ?_⟩⟩
    have no : (k == .tup && isPt xs) = false → Q (.bl false) H1 := fun e => by
      have := q H1 s1
      rw [e] at this
      exact this
    refine ite2 (fun c => ?_) (fun c => no (areB_no c pt_len))
    obtain ⟨rfl, hl, ns, rfl⟩ := areB_yes c
    obtain ⟨a, rfl, hS, _, _, hb⟩ := (A1.same s1).its rfl
    match ns, (show ns.length = 3 by simpa using hl), q, no, hS, hb with
    | [n, m, l], _, q, no, hS, hb =>
      refine ⟨_, rfl, a, _, 2, _, rfl, rfl, hS, rfl, _, _, rfl, rfl, _, rfl, ?_⟩
      refine ite2 (fun c3 => ?_) (fun c3 => ?_)
      · have l0 := of_decide_eq_true c3
        refine ⟨_, rfl, a, [n, m, l], rfl, hS, by simp, fun z hz => hb z (List.mem_map_of_mem hz), fun p H2 s2 hp => ?_⟩
        refine ⟨_, rfl, _, _, dp_ints hp, dp_ints (ns := [n, m, l]) (same_sqT s2 hS), shaped_ints _, shaped_ints _, ?_⟩
        rw [eqv_ints]
        have := q H2 (s1.trans s2)
        have e : (Kd.tup == Kd.tup && isPt ([n, m, l].map V.int)) = decide (thin [n, m, l] = [n, m, l]) := by
          show (decide (0 < l) && decide (Nat.gcd (Nat.gcd n.natAbs m.natAbs) l.natAbs = 1)) = _
          rw [c3, Bool.true_and]
          exact decide_eq_decide.mpr (spot_is l0).symm
        rw [e] at this
        exact this
      · refine no ?_
        show (decide (0 < l) && _) = false
        rw [Bool.eq_false_iff.mpr c3]
        rfl
end
end K05

namespace Ur
open PySem L2
section
variable {K : PySem.W.Frag} {a : Addr} {xs : List V} {tl te : TE} {tt : TT} {vs : List Nat} {j1 : Nat} {σ : L2.St} {H : Hp} {Q : VK}
/-- [x for x in t if test], t a tuple, the test by the place -/
theorem lcTfi (f : Nat → Bool) (hx : ∀ R : VK, R (.ref a) H → tl σ H R) (hs : SqT K H a xs) (hz : xs.length ≤ 100000)
    (hw : ∀ x, wipe ((wipe σ vs).set j1 (some x)) vs = wipe σ vs)
    (ht : ∀ (i : Nat) x H3, xs[i]? = some x → Same H H3 → ∀ Q' : Bool → Hp → Prop, (∀ H4, Same H3 H4 → Q' (f i) H4) → tt ((wipe σ vs).set j1 (some x)) H3 Q')
    (he : ∀ (i : Nat) x H3 (Q' : VK), Q' x H3 → te ((wipe σ vs).set j1 (some x)) H3 Q')
    (hq : ∀ D H', H D = none → Same H H' → H' D = some (.lst (accF f xs xs.length)) → Q (.ref D) H') : tLc (iTup K tl) (gName j1) tt te vs σ H Q := by
  refine hx _ ⟨a, rfl, ⟨xs, hs⟩, fun D hD => ?_⟩
  refine lc_tup (xs := xs) (KeptF H f xs D) ⟨hD, same_new hD, upd_same⟩ (fun i H' _ m => same_sqT m.same hs) (fun i x H' hi m => ⟨hw x, ?_⟩) (fun H' m => hq D H' m.new m.same m.held)
  have hl := (List.getElem?_eq_some_iff.mp hi).1
  refine ht i x _ hi m.same _ fun H4 s4 => ?_
  cases hf : f i with
  | true =>
    rw [if_pos rfl]
    exact he i x _ _ ⟨accF f xs i, s4 _ _ m.held, Nat.lt_of_le_of_lt (accF_len f xs i) (Nat.lt_of_lt_of_le (by omega : i < 100001) (by decide)), m.put s4 hi hf⟩
  | false =>
    rw [if_neg
          Bool.false_ne_true]
    exact m.skip s4 hf
end
theorem accF_mem {f : Nat → Bool} {xs : List V} : ∀ {n : Nat} {y : V}, y ∈ accF f xs n → y ∈ xs
  | 0, y, h => by simp [accF] at h
  | n + 1, y, h => by
    have e : accF f xs (n + 1) = if f n then accF f xs n ++ (xs[n]?).toList else accF f xs n := rfl
    rw [e] at h
    split at h
    · rcases List.mem_append.mp
          h with h | h
      · exact accF_mem h
      · cases hx : xs[n]? with
        | none => rw [hx] at h; simp at h
        | some z =>
          rw [hx] at h
          have : y = z := by simpa using h
          rw [this]
          exact List.mem_of_getElem? hx
    · exact accF_mem h
theorem accF_some {f : Nat → Bool} {xs : List V} {i : Nat} (hf : f i = true) (hi : i < xs.length) : ∀ {n : Nat}, i < n → accF f xs n ≠ []
  | 0, h => absurd h (Nat.not_lt_zero _)
  | n + 1, h => by
    have e : accF f xs (n + 1) = if f n then accF f xs n ++ (xs[n]?).toList else accF f xs n := rfl
    rw [e]
    by_cases c : i = n
    · subst c
      rw [if_pos hf, List.getElem?_eq_getElem hi]
      simp
    · have := accF_some hf hi (n := n) (by omega)
      split
      · intro z
        exact this (List.append_eq_nil_iff.mp z).1
      · exact this
theorem accF_none {f : Nat → Bool} {xs : List V} (hf : ∀ i, i < xs.length → f i = false) : ∀ {n : Nat}, n ≤ xs.length → accF f xs n = []
  | 0, _ => rfl
  | n + 1, h => by
    have e : accF f xs (n + 1) = if f n then accF f xs n ++ (xs[n]?).toList else accF f xs n := rfl
    rw [e, hf n (by omega), if_neg Bool.false_ne_true]
    exact accF_none hf (by omega)
end Ur
namespace K05
open PySem L2 Ur Hull
abbrev sIsSec : Stmt := top 17
abbrev sIsPol : Stmt := top 18
abbrev sShape : Stmt := top 46
/-- an item, and whether it is a point -/
def SpI (K : PySem.W.Frag) (H : Hp) (y : V) (b : Bool) : Prop := ∃ (k : Kd) (zs : List V), Arg K H y k zs ∧ It K H y ∧ b = (k == .tup && isPt zs)
theorem SpI.same {K : PySem.W.Frag} {H H' : Hp} {y : V} {b : Bool} (s : Same H H') (h : SpI K H y b) : SpI K H' y b := by
  obtain ⟨k, zs, a, i, e⟩ := h
  exact ⟨k, zs, a.same s, i.same s, e⟩
theorem tp_spi {K : PySem.W.Frag} {H : Hp} {y : V} {p : List Int} (h : Tp K H y p) (hp : Pt3 CB p) : SpI K H y true := by
  obtain ⟨t, rfl, sp⟩ := h
  refine ⟨.tup, _, pt_arg sp hp, ⟨⟨.tup, tup_kd sp⟩, tupD p, .tup sp (dpAll_ints p), ?_, ?_⟩, ?_⟩
  · exact lay_ints p
  · show PyData.depthAll (p.map PyData.int) + 1 ≤ 8
    rw [depth_ints]
    decide
  · rw [pt_told hp]
    rfl
/-- a value, whether it is a polygon, and whether it is a section -/
inductive Shp (K : PySem.W.Frag) (H : Hp) : V → Bool → Bool → Prop
  | no {x : V} {k : Kd} : OfKd K H x k → k ≠ .tup → Shp K H x false false
  | emp {a : Addr} : SqT K H a [] → Shp K H (.ref a) false false
  | odd {a : Addr} {xs : List V} (f : Nat → Bool) : SqT K H a xs → xs.length ≤ 1000 → (∀ (i : Nat) y, xs[i]? = some y → SpI K H y (f i)) → (∃ i, i < xs.length ∧ f i = false) → Shp K H (.ref a) false false
  | pts {a : Addr} {xs : List V} {pts : List (List Int)} {S : Nat} : SqT K H a xs → Al (Tp K H) xs pts → Scb pts S → pts.length ≤ 100 → 0 < pts.length → Shp K H (.ref a) (decide (hullOf pts = pts)) (decide (3 ≤ pts.length) && (decide (pts.length ≤ 8) && decide (hullOf pts = pts)))
theorem Shp.same {K : PySem.W.Frag} {H H' : Hp} {x : V} {b c : Bool} (s : Same H H') (h : Shp K H x b c) : Shp K H' x b c := by
  cases h with
  | no a b => exact .no (ofKd_same s a) b
  | emp a => exact .emp (same_sqT s a)
  | odd f a b c d => exact .odd f (same_sqT s a) b (fun i y e => (c i y e).same s) d
  | pts a b c d e => exact .pts (same_sqT s a) (b.mono fun _ _ k => k.same s) c d e
theorem eqvAll_tups : ∀ A B : List (List Int), PyData.eqvAll (A.map tupD) (B.map tupD) = decide (A = B)
  | [], [] => rfl
  | [], _ :: _ =>
        by simp [PyData.eqvAll]
  | _ :: _, [] =>
        by simp [PyData.eqvAll]
  | p :: A, q :: B => by
    have e : PyData.eqv (tupD p) (tupD q) = decide (p = q) := eqv_ints p q
    show (PyData.eqv (tupD p) (tupD q) && PyData.eqvAll (A.map tupD) (B.map tupD)) = _
    rw [e, eqvAll_tups A B]
    by_cases c : p = q
    · by_cases d : A = B
      · subst c d; simp
      · subst c; simp [d]
    · simp [c]
def spPlA (K : PySem.W.Frag) : Sp := fun vs H Q _ => ∃ (x : V) (b c : Bool), vs = [x] ∧ Shp K H x b c ∧ ∀ H', Same H H' → Q (.bl b) H'
def spScA (K : PySem.W.Frag) : Sp := fun vs H Q _ => ∃ (x : V) (b c : Bool), vs = [x] ∧ Shp K H x b c ∧ ∀ H', Same H H' → Q (.bl c) H'
section
variable {P' : Program} {w : World} {K :
      PySem.W.Frag} {mg : Str → Option Value} {base : Heap}
theorem beq_no {k : Kd} (h : k ≠ .tup) : (k == Kd.tup) = false := beq_eq_false_iff_ne.mpr h
theorem ok_polyA {f : Addr} {fd : FuncData} (F : Fun K "polygon_fits" "polygon_fits" sPolyF f fd) (T : Bl mg) (H_point_fits : Has P' w K mg base "point_fits" n_value 3 (spTold K isPt)) (H_hull_of : Has P' w K mg base "hull_of" p_points 3 (spHull K)) : FnOk P' w K mg base CX0 4 f fd n_value (spPlA K) := by
  refine F.ok sc_polyF (fun vs H Q E h => ?_) (fun cdv A outer s H vs Q E hr h => ?_)
  · obtain ⟨_, _, _, rfl, _⟩ := h
    rfl
  · obtain ⟨x, b, c, rfl, hM, q⟩ := h
    have hu := hr.units
    refine ⟨_, (pss_cons (ps_if (PW.pt (pw_or (pt_not (pt_val (pe_callB call_isi (by rfl) T.isinstance PyProof.Rows.boot_isinstance (pa_cons (pv 0) (pa_cons (pe_bltn (v := .ty "tuple") (by rfl) T.tuple PyProof.Rows.boot_tuple rfl) pa_nil))))) (pw_or1 (pt_not (pt_truth (pv 0) (fun _ => rfl)))))) (pss_one (ps_ret pe_bl)) pss_nil)
      (pss_one (ps_ret (pe_and (pe_callB (cr_all rfl) (by rfl) T.all PyProof.Rows.boot_all (pa_cons (pe_lc (own := [("corner", 1)]) (g := gName 1) (tt := tYes) rfl sc_polyF.nd (pi_tup (pv 0)) (blkOk_by (N := n_polyF) (sc := defScope sPolyF) (by decide +kernel)) (fun _ _ _ _ _ => pg_name (i := 1) sc_polyF.nd rfl (Or.inl rfl)) (fun _ _ _ _ _ => pts_nil) (fun _ _ _ _ _ => (pe_has H_point_fits (hr.mono (by decide)) (by rfl) (pa_cons (pv 1) pa_nil)))) pa_nil)) (pe_one (pe_cmpR (eqD_K (K := K) rfl hu) (pe_has H_hull_of (hr.mono (by decide)) (by rfl) (pa_cons (pv 0) pa_nil)) (pv 0) (nomark _))))))), ?_⟩
    cases hM with
    | @no _ k hk hn =>
      refine ⟨_, rfl, x, _, _, _, _, rfl, .ty "tuple", hk, kit_ty (kd_tup k), _, rfl, ?_⟩
      rw [beq_no hn]
      exact iteT (q H (Same.refl H))
    | @emp a hS =>
      refine ⟨_, rfl, _, _, _, _, _, rfl, .ty "tuple", tup_kd hS, kit_ty (kd_tup .tup), _, rfl, ?_⟩
      refine iteF ?_
      refine ⟨_, rfl, !([] : List V).isEmpty, Or.inr (Or.inl ⟨_, hS, rfl⟩), ?_⟩
      exact iteT (q H (Same.refl H))
    | @odd a xs g hS hz hI hno =>
      obtain ⟨i0, hi0, hf0⟩ := hno
      refine ⟨_, rfl, _, _, _, _, _, rfl, .ty "tuple", tup_kd hS, kit_ty (kd_tup .tup), _, rfl, ?_⟩
      refine iteF ?_
      refine ⟨_, rfl, !xs.isEmpty, Or.inr (Or.inl ⟨_, hS, rfl⟩), ?_⟩
      have ne : xs.isEmpty = false := by
        cases xs with
        | nil => simp at hi0
        | cons x r => rfl
      rw [ne]
      refine iteF ?_
      unfold tNext tRet tAndV tCB tCons tNil
      dsimp only
      refine lcT (K := K) (a := a) (xs := xs) (fun i y => y = .bl (g i)) (fun R r => ⟨_, rfl, r⟩) hS (by omega) (fun _ => rfl) (fun i x H3 hi sm Q' q' => ?_) (fun D ys H2 hD sm hy e1 e2 => ?_)
      · obtain ⟨k, zs, ha, _, e⟩ := (hI i x hi).same sm
        exact ⟨_, rfl, x, k, zs, rfl, ha, fun H4 s4 => q' _ _ (by rw [e]) s4⟩
      · have ey : ys = ((List.range xs.length).map g).map V.bl := by
          apply List.ext_getElem?
          intro i
          rw [List.getElem?_map,
                List.getElem?_map]
          by_cases h : i < xs.length
          · rw [List.getElem?_range h, List.getElem?_eq_getElem (by omega)]
            rw [e2 i _ (List.getElem?_eq_getElem (by omega))]
            rfl
          · rw [List.getElem?_eq_none (by omega), List.getElem?_eq_none (by rw [List.length_range]; omega)]
            rfl
        rw [ey] at hy
        refine ⟨D, _, rfl, SqL.of hy, _, rfl, ?_⟩
        have ea : ((List.range xs.length).map g).all id = false := by
          rw [List.all_eq_false]
          exact ⟨g i0, List.mem_map.mpr ⟨i0, List.mem_range.mpr hi0, rfl⟩, by rw [hf0]; decide⟩
        rw [ea]
        exact iteF (q H2 sm)
    | @pts t xs pts S hS hA hP h100 h0 =>
      have hfew := hP.few
      refine ⟨_, rfl, _, _, _, _, _, rfl, .ty "tuple", tup_kd hS, kit_ty (kd_tup .tup), _, rfl, ?_⟩
      refine iteF ?_
      refine ⟨_, rfl, !xs.isEmpty, Or.inr (Or.inl ⟨_, hS, rfl⟩), ?_⟩
      have ne : xs.isEmpty = false := by
        cases xs with
        | nil => exact absurd hA.len (by rw [List.length_nil]; omega)
        | cons x r => rfl
      rw [ne]
      refine iteF ?_
      have hlen : xs.length ≤ 1000 := by rw [hA.len]; exact hfew
      unfold tNext tRet tAndV tCB tCons tNil
      dsimp only
      refine lcT (K := K) (a := t) (xs := xs) (fun _ y => y = .bl true) (fun R r => ⟨_, rfl, r⟩) hS (by omega) (fun _ => rfl) (fun i x H3 hi sm Q' q' => ?_) (fun D ys H2 hD sm hy e1 e2 => ?_)
      · obtain ⟨p, hp, ⟨tp, rfl, sp⟩⟩ := hA.get hi
        have hp3 := hP.ok p (List.mem_of_getElem? hp)
        refine ⟨_, rfl, _, .tup, _, rfl, (pt_arg sp hp3).same sm, fun H4 s4 => q' _ _ ?_ s4⟩
        rw [pt_told hp3]
        rfl
      · have ey : ys = (List.replicate ys.length true).map V.bl := by
          apply List.ext_getElem?
          intro i
          rw [List.getElem?_map]
          cases h : ys[i]? with
          | none =>
            rw [List.getElem?_eq_none (by rw [List.length_replicate]; exact List.getElem?_eq_none_iff.mp h)]
            rfl
          | some y =>
            have hl := (List.getElem?_eq_some_iff.mp h).1
            rw [e2 i y h, List.getElem?_replicate, if_pos hl]
            rfl
        rw [ey] at hy
        refine ⟨D, _, rfl, SqL.of hy, _, rfl, ?_⟩
        have ea : (List.replicate ys.length true).all id = true := by simp
        rw [ea]
        refine iteT ?_
        refine ⟨_, rfl, t, xs, pts, S, rfl, same_sqT sm hS, hA.mono (fun y p h => h.same sm), hP, fun H3 r zs s3 hr3 hA3 => ?_⟩
        refine ⟨_, rfl, _, _, .tup hr3 (al_data hA3), .tup (same_sqT (sm.trans s3) hS) (al_data (hA.mono fun y p h => h.same (sm.trans s3))), shaped_tups _, shaped_tups _, ?_⟩
        have e9 : PyData.eqv (.tuple ((hullOf pts).map tupD)) (.tuple (pts.map tupD)) = decide (hullOf pts = pts) := eqvAll_tups _ _
        rw [e9]
        exact q H3 (sm.trans s3)
theorem ok_secA {f : Addr} {fd : FuncData} (F : Fun K "section_fits" "section_fits" sSecF f fd) (T : Bl mg) (H_polygon_fits : Has P' w K mg base "polygon_fits" n_value 4 (spPlA K)) : FnOk P' w K mg base CX0 5 f fd n_value (spScA K) := by
  refine F.ok sc_secF (fun vs H Q E h => ?_) (fun cdv A outer s H vs Q E hr h => ?_)
  · obtain ⟨_, _, _, rfl, _⟩ := h
    rfl
  · obtain ⟨x, b, c, rfl, hM, q⟩ := h
    refine ⟨_, (pss_one (ps_ret (pe_and (pe_callB call_isi (by rfl) T.isinstance PyProof.Rows.boot_isinstance (pa_cons (pv 0) (pa_cons (pe_bltn (v := .ty "tuple") (by rfl) T.tuple PyProof.Rows.boot_tuple rfl) pa_nil))) (pe_and (pe_chain op_le op_le pe_int (pe_callB (r := Ur.rLen K) Ur.len_seq (by rfl) T.len PySem.boot_len (pa_cons (pv 0) pa_nil)) pe_int) (pe_one (pe_has H_polygon_fits (hr.mono (by decide)) (by rfl) (pa_cons (pv 0) pa_nil))))))), ?_⟩
    cases hM with
    | @no _ k hk hn =>
      refine ⟨_, rfl, x, _, _, _, _, rfl, .ty "tuple", hk, kit_ty (kd_tup k), _, rfl, ?_⟩
      rw [beq_no hn]
      exact iteF (q H (Same.refl H))
    | @emp a hS =>
      refine ⟨_, rfl, _, _, _, _, _, rfl, .ty "tuple", tup_kd hS, kit_ty (kd_tup .tup), _, rfl, ?_⟩
      refine iteT ?_
      refine ⟨_, rfl, a, _, rfl, Or.inr hS, _, _, rfl, rfl, _, rfl, ?_⟩
      exact ite2 (fun c => absurd (of_decide_eq_true c) (by show ¬ (3 : Int) ≤ ((0 : Nat) : Int); decide)) (fun _ => ⟨_, rfl, iteF (q H (Same.refl H))⟩)
    | @odd a xs g hS hz hI hno =>
      refine ⟨_, rfl, _, _, _, _, _, rfl, .ty "tuple", tup_kd hS, kit_ty (kd_tup .tup), _, rfl, ?_⟩
      refine iteT ?_
      refine ⟨_, rfl, a, _, rfl, Or.inr hS, _, _, rfl, rfl, _, rfl, ?_⟩
      refine ite2 (fun c => ?_) (fun c => ⟨_, rfl, iteF (q H (Same.refl H))⟩)
      refine ⟨_, _, rfl, rfl, _, rfl, ?_⟩
      refine ite2 (fun c2 => ?_) (fun c => q H (Same.refl H))
      exact ⟨_, rfl, .ref a, false, false, rfl, .odd g hS hz hI hno, q⟩
    | @pts t xs pts S hS hA hP h100 h0 =>
      have hl := hA.len
      refine ⟨_, rfl, _, _, _, _, _, rfl, .ty "tuple", tup_kd hS, kit_ty (kd_tup .tup), _, rfl, ?_⟩
      refine iteT ?_
      refine ⟨_, rfl, t, _, rfl, Or.inr hS, _, _, rfl, rfl, _, rfl, ?_⟩
      refine ite2 (fun c
            => ?_) (fun c => ?_)
      · have c' : 3 ≤ pts.length := by
          have := of_decide_eq_true c
          omega
        rw [decide_eq_true c', Bool.true_and] at q
        refine ⟨_, _, rfl, rfl, _, rfl, ?_⟩
        refine ite2 (fun c2 => ?_) (fun c2 => ?_)
        · have c2' : pts.length ≤ 8 := by
            have := of_decide_eq_true c2
            omega
          rw [decide_eq_true c2', Bool.true_and] at q
          exact ⟨_, rfl, .ref t, _, _, rfl, .pts hS hA hP h100 h0, q⟩
        · have c2' : ¬ pts.length ≤ 8 := fun z => c2 (decide_eq_true (by omega))
          rw [decide_eq_false c2', Bool.false_and] at q
          exact q H (Same.refl H)
      · have c' : ¬ 3 ≤ pts.length := fun z => c (decide_eq_true (by omega))
        rw [decide_eq_false c', Bool.false_and] at q
        exact ⟨_, rfl, iteF (q H (Same.refl H))⟩
theorem sc_isSec : FnScope n_value n_value (defScope sIsSec) := ⟨rfl, rfl, rfl, by decide +kernel, rfl, by decide +kernel, by decide +kernel⟩
theorem ok_isSec {f : Addr} {fd : FuncData} (F : Fun K "is_section" "is_section" sIsSec f fd) (H_section_fits : Has P' w K mg base "section_fits" n_value 5 (spScA K)) : FnOk P' w K mg base CX0 6 f fd n_value (spScA K) := by
  refine F.ok sc_isSec (fun vs H Q E h => ?_) (fun cdv A outer s H vs Q E hr h => ?_)
  · obtain ⟨_, _, _, rfl, _⟩ := h
    rfl
  · obtain ⟨x, b, c, rfl, hM, q⟩ := h
    refine ⟨_, (pss_one (ps_ret (pe_has H_section_fits (hr.mono (by decide)) (by rfl) (pa_cons (pv 0) pa_nil)))), ?_⟩
    exact ⟨_, rfl, x, b, c, rfl, hM, q⟩
theorem sc_isPol : FnScope n_value n_value (defScope sIsPol) := ⟨rfl, rfl, rfl, by decide +kernel, rfl, by decide +kernel, by decide +kernel⟩
theorem ok_isPol {f : Addr} {fd : FuncData} (F : Fun K "is_polygon" "is_polygon" sIsPol f fd) (H_polygon_fits : Has P' w K mg base "polygon_fits" n_value 4 (spPlA K)) : FnOk P' w K mg base CX0 5 f fd n_value (spPlA K) := by
  refine F.ok sc_isPol (fun vs H Q E h => ?_) (fun cdv A outer s H vs Q E hr h => ?_)
  · obtain ⟨_, _, _, rfl, _⟩ := h
    rfl
  · obtain ⟨x, b, c, rfl, hM, q⟩ := h
    refine ⟨_, (pss_one (ps_ret (pe_has H_polygon_fits (hr.mono (by decide)) (by rfl) (pa_cons (pv 0) pa_nil)))), ?_⟩
    exact ⟨_, rfl, x, b, c, rfl, hM, q⟩
abbrev n_shape : List Str := ["_law_thing", "_law_spot_here"]
abbrev p_shape : List Str := ["_law_thing"]
theorem sc_shape : FnScope n_shape p_shape (defScope sShape) := ⟨rfl, rfl, rfl, by decide +kernel, rfl, by decide +kernel, by decide +kernel⟩
theorem shaped_its {ds : List PyData} (h : PyData.canLayAll0 ds = true) (hd : PyData.depthAll ds ≤ 8) : SeqAt.shaped (.tuple ds) = true ∧ SeqAt.shaped (.list ds) = true := by
  refine ⟨?_, ?_⟩
  · unfold SeqAt.shaped
    show (PyData.canLayAll0 ds && decide (PyData.depthAll ds + 1 ≤ 64)) = true
    rw [h, decide_eq_true (by omega)]
    rfl
  · unfold SeqAt.shaped
    show (PyData.canLayAll0 ds && decide (PyData.depthAll ds + 1 ≤ 64)) = true
    rw [h, decide_eq_true (by omega)]
    rfl
theorem ok_shape {f : Addr} {fd : FuncData} (F : Fun K "_law_is_shape" "_law_is_shape" sShape f fd) (T : Bl mg) (H_law_is_spot : Has P' w K mg base "_law_is_spot" n_lthg 3 (spTold K isPt)) (H_law_hull : Has P' w K mg base "_law_hull" p_lspots 7 (spLHullT K)) : FnOk P' w K mg base CX0 8 f fd p_shape (spPlA K) := by
  refine F.ok sc_shape (fun vs H Q E h => ?_) (fun cdv A outer s H vs Q E hr h => ?_)
  · obtain ⟨_, _, _, rfl, _⟩ := h
    rfl
  · obtain ⟨x, b, c, rfl, hM, q⟩ := h
    have hu : (A.deeper (PyProof.Rows.envOfC "_law_is_shape" (defScope sShape) s.heap.objs.size f cdv)).units + 64 < cLine := hr.units
    refine ⟨_, (pss_cons (ps_if (PW.pt (pw_or (pt_not (pt_val (pe_callB call_isi (by rfl) T.isinstance PyProof.Rows.boot_isinstance (pa_cons (pv 0) (pa_cons (pe_bltn (v := .ty "tuple") (by rfl) T.tuple PyProof.Rows.boot_tuple rfl) pa_nil))))) (pw_or (pt_cmpR (eqD_K (K := K) rfl hu) (pv 0) (pe_tup pa_nil) (nomark _)) (pw_or1 (pt_cmpR (neD_K (K := K) rfl hu) (pe_lc (own := [("_law_spot_here", 1)]) (g := gName 1) rfl sc_shape.nd (pi_tup (pv 0)) (blkOk_by (N := n_shape) (sc := defScope sShape) (by decide +kernel)) (fun _ _ _ _ _ => pg_name (i := 1) sc_shape.nd rfl (Or.inl rfl)) (fun _ _ _ _ _ => pts_one (pt_not (pt_val (pe_has H_law_is_spot (hr.mono (by decide)) (by rfl) (pa_cons (pv 1) pa_nil))))) (fun _ _ _ _ _ => (pv 1))) (pe_lst pa_nil) (nomark _)))))) (pss_one (ps_ret pe_bl)) pss_nil)
      (pss_one (ps_ret (pe_cmpR (eqD_K (K := K) rfl hu) (pe_has H_law_hull (hr.mono (by decide)) (by rfl) (pa_cons (pv 0) pa_nil)) (pv 0) (nomark _))))), ?_⟩
    cases hM with
    | @no _ k hk hn =>
      refine ⟨_, rfl, x, _, _, _, _, rfl, .ty "tuple", hk, kit_ty (kd_tup k), _, rfl, ?_⟩
      rw [beq_no hn]
      exact iteT (q H (Same.refl H))
    | @emp a hS =>
      refine ⟨_, rfl, _, _, _, _, _, rfl, .ty "tuple", tup_kd hS, kit_ty (kd_tup .tup), _, rfl, ?_⟩
      refine iteF ?_
      refine ⟨_, rfl, by show 0 ≤ sizeLine; decide, fun p hp => ?_⟩
      have np := same_new (p := p) (o := HO.tup []) hp
      refine ⟨.tuple [], .tuple [], .tup (same_sqT np hS) .nil, .tup (SqT.of upd_same) .nil, by decide, by decide, _, rfl, ?_⟩
      exact iteT (q _ np)
    | @odd a xs g hS hz hI hno =>
      obtain ⟨i0, hi0, hf0⟩ := hno
      refine ⟨_, rfl, _, _, _, _, _, rfl, .ty "tuple", tup_kd hS, kit_ty (kd_tup .tup), _, rfl, ?_⟩
      refine iteF ?_
      refine ⟨_, rfl, by show 0 ≤ sizeLine; decide, fun p hp => ?_⟩
      have np := same_new (p := p) (o := HO.tup []) hp
      have hit : ∀ {H' : Hp}, Same H H' → ∀ y ∈ xs, It K H' y := fun s' y hy => by
        obtain ⟨i, hi, ei⟩ := List.getElem_of_mem hy
        obtain ⟨_, _, _, h, _⟩ := hI i y (by rw [List.getElem?_eq_getElem hi, ei])
        exact h.same s'
      obtain ⟨ds, d1, d2, d3, d4⟩ := its_dat (hit np)
      obtain ⟨d, dr, ed⟩ : ∃ d dr, ds = d :: dr := by
        cases ds with
        | nil => simp at d4; omega
        | cons d dr => exact ⟨d, dr, rfl⟩
      refine ⟨.tuple ds, .tuple [], .tup (same_sqT np hS) d1, .tup (SqT.of upd_same) .nil, (shaped_its d2 d3).1, by decide, ?_⟩
      have e0 : PyData.eqv (.tuple ds) (.tuple []) = false := by rw [ed]; show PyData.eqvAll (d :: dr) [] = false; simp [PyData.eqvAll]
      rw [e0]
      refine ⟨_, rfl, iteF ?_⟩
      generalize upd H p (.tup []) = H1 at np hit ⊢
      unfold tTest tOp
      dsimp only
      refine lcTfi (K := K) (a := a) (xs := xs) (fun i => !g i) (fun R r => ⟨_, rfl, r⟩) (same_sqT np hS) (by omega) (fun _ => rfl) (fun i y H3 hi s3 Q' q' => ?_) (fun i y H3 Q' q' => ⟨_, rfl, q'⟩) (fun D H3 hD s3 hy => ?_)
      · obtain ⟨k, zs, ha, _, e⟩ := (hI i y hi).same (np.trans s3)
        refine ⟨_, rfl, y, k, zs, rfl, ha, fun H4 s4 => ⟨_, rfl, ?_⟩⟩
        rw [← e]
        exact q' H4 s4
      · refine ⟨by show 0 ≤ sizeLine; decide, fun p2 hp2 => ?_⟩
        have n2 := same_new (p := p2) (o := HO.lst []) hp2
        have sall := np.trans (s3.trans n2)
        obtain ⟨es, c1, c2, c3, c4⟩ := its_dat (K := K) (H := upd H3 p2 (.lst [])) (ys := accF (fun i => !g i) xs xs.length) fun y hy' => hit (np.trans (s3.trans n2)) y (accF_mem hy')
        have ne := accF_some (f := fun i => !g i) (xs := xs) (i := i0) (by rw [hf0]; rfl) hi0 hi0
        obtain ⟨d', dr', ed'⟩ : ∃ d dr, es = d :: dr := by
          cases es with
          | nil => exact absurd (List.length_eq_zero_iff.mp c4.symm) ne
          | cons d dr => exact ⟨d, dr, rfl⟩
        refine ⟨.list es, .list [], dp_list (n2 _ _ hy) c1, dp_list upd_same .nil, (shaped_its c2 c3).2, by decide, ?_⟩
        have e1 : PyData.eqv (.list es) (.list []) = false := by rw [ed']; show PyData.eqvAll (d' :: dr') [] = false; simp [PyData.eqvAll]
        rw [e1]
        exact ⟨_, rfl, iteT (q _ sall)⟩
    | @pts t xs pts S hS hA hP h100 h0 =>
      refine ⟨_, rfl, _, _, _, _, _, rfl, .ty "tuple", tup_kd hS, kit_ty (kd_tup .tup), _, rfl, ?_⟩
      refine iteF ?_
      refine ⟨_, rfl, by show 0 ≤ sizeLine; decide, fun p hp => ?_⟩
      have np := same_new (p := p) (o := HO.tup []) hp
      refine ⟨.tuple (pts.map tupD), .tuple [], .tup (same_sqT np hS) (al_data (hA.mono fun _ _ k => k.same np)), .tup (SqT.of upd_same) .nil, shaped_tups _, by decide, ?_⟩
      have e0 : PyData.eqv (.tuple (pts.map tupD)) (.tuple []) = false := by
        cases pts with
        | nil => simp at h0
        | cons d dr => show PyData.eqvAll (tupD d :: dr.map tupD) [] = false; simp [PyData.eqvAll]
      rw [e0]
      refine ⟨_, rfl, iteF ?_⟩
      generalize upd H p (.tup []) = H1 at np ⊢
      unfold tTest tOp
      dsimp only
      have hl := hA.len
      refine lcTfi (K := K) (a := t) (xs := xs) (fun _ => false) (fun R r => ⟨_, rfl, r⟩) (same_sqT np hS) (by omega) (fun _ => rfl) (fun i y H3 hi s3 Q' q' => ?_) (fun i y H3 Q' q' => ⟨_, rfl, q'⟩) (fun D H3 hD s3 hy => ?_)
      · obtain ⟨p', hp', tp'⟩ := hA.get hi
        obtain ⟨k, zs, ha, _, e⟩ := (tp_spi tp' (hP.ok p' (List.mem_of_getElem? hp'))).same (np.trans s3)
        refine ⟨_, rfl, y, k, zs, rfl, ha, fun H4 s4 => ⟨_, rfl, ?_⟩⟩
        rw [← e]
        exact q' H4 s4
      · rw [accF_none (fun _ _ => rfl) (Nat.le_refl _)] at hy
        refine ⟨by show 0 ≤ sizeLine; decide, fun p2 hp2 => ?_⟩
        have n2 := same_new (p := p2) (o := HO.lst []) hp2
        have s13 := np.trans (s3.trans n2)
        refine ne_nil (n2 _ _ hy) upd_same ⟨_, rfl, iteF ?_⟩
        generalize upd H3 p2 (.lst []) = H4 at s13 ⊢
        have hpk : ∀ q ∈ pts, Pk (scl pts) q := fun q hq => ⟨hP.ok q hq, scl_has hq⟩
        have hz : ∀ m ∈ xs.zip pts, Tp K H4 m.1 m.2 ∧ Pk (scl pts) m.2 := fun m hm => by
          obtain ⟨i, hi, ei⟩ := List.getElem_of_mem hm
          have hi' : i < xs.length := by rw [List.length_zip] at hi; omega
          have hi2 : i < pts.length := by omega
          have e1 : m = (xs[i], pts[i]) := by rw [← ei, List.getElem_zip]
          subst e1
          exact ⟨(hA.at_ i _ _ (List.getElem?_eq_getElem hi') (List.getElem?_eq_getElem hi2)).same s13, hpk _ (List.getElem_mem hi2)⟩
        have f1 : (xs.zip pts).map Prod.fst = xs := List.map_fst_zip (by omega)
        have f2 : (xs.zip pts).map Prod.snd = pts := List.map_snd_zip (by omega)
        refine ⟨_, rfl, t, xs.zip pts, scl pts, rfl, ?_, hz, ?_, hP.scl_pos, fun r H5 s5 hr5 => ?_⟩
        · rw [f1]
          exact same_sqT s13 hS
        · rw [List.length_zip]
          omega
        have hh := hullI_is (pts := pts) rfl hP.scl_pos f2 fun m hm => (hz m hm).2
        have dA : DpAll K H5 ((hullI (scl pts) (xs.zip pts)).map Prod.fst) ((hullOf pts).map tupD) := by
          have := dpAll_items (K := K) (H := H5) (row := hullI (scl pts) (xs.zip pts)) fun m hm => (hz m (sortI_mem (hull_mem' hm))).1.same s5
          rw [← hh, List.map_map]
          exact this
        have s15 := s13.trans s5
        refine ⟨_, rfl, _, _, .tup hr5 dA, .tup (same_sqT s15 hS) (al_data (hA.mono fun _ _ k => k.same s15)), shaped_tups _, shaped_tups _, ?_⟩
        have e9 : PyData.eqv (.tuple ((hullOf pts).map tupD)) (.tuple (pts.map tupD)) = decide (hullOf pts = pts) := eqvAll_tups _ _
        rw [e9]
        exact q H5 s15
end
end K05

namespace Ur
open PySem L2 PyProof.Rows
/-! ### t[:0:-1], t a tuple -/
theorem back_pick0 (xs : Array Value) : ((List.range (xs.size - 1)).filterMap fun (m : Nat) => xs[(((xs.size : Int) - 1) + (m : Int) * (-1)).toNat]?) = (xs.toList.drop 1).reverse := by
  have e : ((List.range (xs.size - 1)).filterMap fun (m : Nat) => xs[(((xs.size : Int) - 1) + (m : Int) * (-1)).toNat]?) = (List.range (xs.size - 1)).map (fun m => xs.toList.getD (xs.size - 1 - m) .none) := by
    refine fm_all fun m hm => ?_
    have : m < xs.size - 1 := List.mem_range.mp hm
    rw [show (((xs.size : Int) - 1) + (m : Int) * (-1)).toNat = xs.size - 1 - m by omega]
    rw [List.getD_eq_getElem?_getD, Array.getElem?_toList, Array.getElem?_eq_getElem (by omega)]
    rfl
  rw [e]
  apply List.ext_getElem?
  intro i
  rw [List.getElem?_map]
  by_cases h : i < xs.size - 1
  · rw [List.getElem?_range h, List.getElem?_reverse (by rw [List.length_drop, Array.length_toList]; exact h)]
    rw [Option.map_some, List.getD_eq_getElem?_getD, List.getElem?_drop, List.length_drop, Array.length_toList]
    rw [show 1 + (xs.size - 1 - 1 - i) = xs.size - 1 - i by omega, List.getElem?_eq_getElem (by rw [Array.length_toList]; omega)]
    rfl
  · rw [List.getElem?_eq_none (by rw [List.length_range]; omega), List.getElem?_eq_none (by rw [List.length_reverse, List.length_drop, Array.length_toList]; omega)]
    rfl
section
variable {prog : Program} {w : World} {A :
      Around} {E : Value → Shared → Prop} {s : Shared}
theorem applied_back0 {sl : Addr} {t0 t1 : Tok} {n : Nat} {Q : Int × Int × Nat → Shared → Prop} (hn : 1 ≤ n) (hs : s.heap.IsSliceOf sl .none (.int 0 t0) (.int (-1) t1))
    (h : Q ((n : Int) - 1, -1, n - 1) s) : wpAny (model prog w) A (Builtin.Slice.sliceApplied (.ref sl) (pure (n : Int))) Q E s := by
  obtain ⟨os, hoz, hcz, hdz⟩ := id hs
  unfold Builtin.Slice.sliceApplied
        Builtin.Slice.sliceFields
  refine wpAny_bind (wpAny_bind (wpAny_field hoz hdz (x := .none) rfl (wpAny_bind (wpAny_field hoz hdz (x := .int 0 t0) rfl (wpAny_bind (wpAny_field hoz hdz (x := .int (-1) t1) rfl (wpAny_pure ?_)))))))
  refine wpAny_bind (slicePart_int ?_)
  show wpAny _ _ (if ((-1 : Int) == 0) = true then _ else _) _ _ s
  rw [if_neg (by decide)]
  refine wpAny_bind (slicePart_none (wpAny_bind (slicePart_int (wpAny_bind (wpAny_pure ?_)))))
  show wpAny _ _ (match Builtin.Slice.sliceAdjust none (some 0) (-1) (n : Int) with | (lo, hi) => pure (lo, (-1 : Int), Builtin.Slice.slicePlaces lo hi (-1))) _ _ s
  have e : Builtin.Slice.sliceAdjust none (some 0) (-1) (n : Int) = ((n : Int) - 1, 0) := by
    show ((n : Int) - 1, min (0 : Int) ((n : Int) - 1)) = _
    rw [Int.min_eq_left (by omega)]
  rw [e]
  have e2 : Builtin.Slice.slicePlaces ((n : Int) - 1) 0 (-1) = n - 1 := by
    delta Builtin.Slice.slicePlaces
    rw [if_neg (by decide)]
    split
    · rw [show (-(-1 : Int)) = 1 from rfl, Int.ediv_one]
      omega
    · omega
  show wpAny _ _ (pure (((n : Int) - 1), (-1 : Int), Builtin.Slice.slicePlaces ((n : Int) - 1) 0 (-1))) _ _ s
  rw [e2]
  exact wpAny_pure h
theorem item_back0 {t sl : Addr} {items : Array Value} {t0 t1 : Tok} {Q : Value → Shared → Prop} (h1 : 1 ≤ items.size) (ht : IsTup s.heap t items) (hs : s.heap.IsSliceOf sl .none (.int 0 t0) (.int (-1) t1))
    (h : Q (.ref s.heap.objs.size) { s with heap := s.heap.push { cls := .type "tuple", data := .seq (items.toList.drop 1).reverse.toArray } }) (hsz : items.size ≤ sizeLine) : wpAny (model prog w) A (getItem (.ref t) (.ref sl)) Q E s := by
  have hbig : sizeOk (.seq (items.toList.drop 1).reverse.toArray) := by
    show (items.toList.drop 1).reverse.toArray.size ≤ sizeLine
    rw [List.size_toArray, List.length_reverse, List.length_drop, Array.length_toList]
    omega
  obtain ⟨os, hoz, hcz, hdz⟩ := id hs
  have hTz : s.TypeIs (.ref sl) "slice" := ⟨os, hoz, hcz⟩
  unfold getItem
  try with_reducible
        refine wpAny_holding ?_
  first | (refine wpAny_bind (wpAny_pure ?_)) | skip
  refine wpAny_bind (wpAny_sequenceKey
        ht.typeIs (by decide) ?_)
  refine wpAny_bind (wpAny_callSpecial?_slot (name := Str.ofString
        "__getitem__") ht.typeIs PyProof.Rows.slot_tuple_getitem
    (wpAny_call_entry PyProof.Rows.slot_tuple_getitem
          ht.typeIs entry_tuple_getitem ?_ (args_tuple_getitem _ _)))
  show wpAny _ _ (Builtin.Tuple.tupleItemsOf
        (.ref t) >>= _) _ _ s
  refine wpAny_bind
        (tupleItemsOf_ ht ?_)
  refine wpAny_bind (wpAny_typeOf hTz ?_)
  rw [if_pos (by decide)]
  refine wpAny_bind (applied_back0 (t0 := t0) (t1 := t1) h1 hs ?_)
  have hno : ¬ ((((items.size : Int) - 1) == 0 && (-1 : Int) == 1 && items.size - 1 == items.size) = true) := by
    intro q
    rw [Bool.and_eq_true,
          Bool.and_eq_true] at q
    exact absurd q.1.2 (by decide)
  show wpAny _ _ (if (((items.size : Int) - 1) == 0 && (-1 : Int) == 1 && items.size - 1 == items.size) = true then _ else _) _ _ s
  rw [if_neg hno, back_pick0]
  first
    | exact wpAny_bind (m := Builtin.Tuple.tupleExact _) (wpAny_newObj_type (wpAny_pure ⟨_, rfl, wpAny_pure h⟩) hbig)
    | exact wpAny_bind (m := Builtin.Tuple.tupleExact _) (wpAny_newObj_type (wpAny_bind (wpAny_pure (wpAny_pure ⟨_, rfl, wpAny_pure h⟩))) hbig)
    | exact wpAny_bind (wpAny_bind (m := Builtin.Tuple.tupleExact _) (wpAny_newObj_type (wpAny_pure (wpAny_pure ⟨_, rfl, wpAny_pure h⟩)) hbig))
    | exact wpAny_bind (wpAny_bind (m := Builtin.Tuple.tupleExact _) (wpAny_newObj_type (wpAny_pure ⟨_, rfl, wpAny_pure h⟩) hbig))
end
section
variable {X : Cx}
def tRev0 (K : PySem.W.Frag) (te : TE) : TE := fun σ H Q => te σ H fun x H1 => ∃ a xs, x = .ref a ∧ SqT K H1 a xs ∧ 1 ≤ xs.length ∧ ∀ p, H1 p = none → Q (.ref p) (upd H1 p (.tup (xs.drop 1).reverse))
theorem pe_rev0 {e : Expr} {te : TE} {k k0 : Nat} {p0 p1 p2 p3 pos : Pos} (he : PE X e te) : PE X (.Subscript e (.Slice none (some (.Constant (.int 0) k0 p0)) (some (.UnaryOp .USub (.Constant (.int 1) k p1) p2)) p3) pos) (tRev0 X.K te) := by
  refine ⟨fun pins
        s σ H Q I h => ?_⟩
  refine Subscript_ (thn (he.run pins s σ H
        _ I h) fun v s1 ⟨x, H1, I1, r1, q1⟩ => ?_)
  obtain ⟨a, xs,
        ex, hx, h1, q⟩ := q1
  subst ex
  cases r1
  have hst0 : PO X (some (.Constant (.int 0) k0 p0)) (tPart (tC (.int 0))) := po_some pe_int
  have hsz0 : PO X (some (.UnaryOp .USub (.Constant (.int 1) k p1) p2)) (tPart (tUn (rU fun i => .int (-i)) (tC (.int 1)))) := po_some (pe_un un_neg pe_int)
  refine wpAny_Slice (thn (po_none.run pins s1 σ H1 (fun o H2 => o = none ∧ H2 = H1) I1 ⟨rfl, rfl⟩) fun vl s2 ⟨l, H2, IR, pl, el, e2⟩ => ?_)
  subst el e2
  refine thn (hst0.run pins s2 σ H2 (fun o H3 => o = some 0 ∧ H3 = H2) IR ⟨0, rfl, rfl, rfl⟩) fun vu s3 ⟨u, H3, IT, pu, eu, e3⟩ => ?_
  subst eu e3
  refine thn (hsz0.run pins s3 σ H3 (fun o H4 => o = some (-1) ∧ H4 = H3) IT ⟨1, rfl, -1, rfl, rfl, rfl⟩) fun vs s4 ⟨o, H4, IU, ps, eo, e4⟩ => ?_
  subst eo e4
  have IV : Inv X pins σ H4 { s4 with heap := s4.heap.push { cls := .type "slice", data := .fields #[vl, vu, vs] } } := IU.kept (t' := s4.toks) fun b ob q => Heap.get?_push_of_some _ q
  obtain ⟨its, r, ht, hz⟩ := IV.tuple hx
  have hlen := r.length
  show wpAny (model X.prog X.w) X.A (subscriptTail e (.Slice none (some (.Constant (.int 0) k0 p0)) (some (.UnaryOp .USub (.Constant (.int 1) k p1) p2)) p3) (.ref a)
        (.ref s4.heap.objs.size)) (EP X pins σ Q) X.xe { s4 with heap := s4.heap.push { cls := .type "slice", data := .fields #[vl, vu, vs] } }
  refine tail_any (ops := [.ref a, .ref s4.heap.objs.size]) ht.typeIs (PyProof.Rows.slot_tuple_getitem.lookup) ?_ (by with_unfolding_all rfl)
  cases pl
  cases pu with
  | int i0 t0 =>
    cases ps with
    | int i t1 =>
      refine item_back0 (t0 := t0) (t1 := t1) (by rw [List.size_toArray]; omega) ht (Heap.IsSliceOf.new ..) ?_ (by rw [List.size_toArray]; omega)
      refine ⟨.ref _, _, IV.laid (t' := s4.toks) (o := .tup (xs.drop 1).reverse) (fun b ob q => Heap.get?_push_of_some _ q) (Nat.le_refl _) ?_, rfl, q _ (IV.hok.fresh (Nat.le_refl _))⟩
      exact ⟨by rw [List.length_reverse, List.length_drop]; omega, _, (r.drop 1).reverse, IsTup.new _ _⟩
end
end Ur

namespace Ur
open PySem L2
/-- all but one place -/
def off (D : Addr) (H : Hp) : Hp := fun a => if a = D then none else H a
theorem off_ne {D a : Addr} {H : Hp} (h : a ≠ D) : off D H a = H a := if_neg h
theorem off_same {D : Addr} {H : Hp} : Same (off D H) H := fun a u e => by
  unfold off at e
  split at e
  · cases e
  · exact e
theorem off_upd {D : Addr} {H : Hp} {o : HO} : Same (off D H) (off D (upd H D o)) := fun a u e => by
  by_cases c : a = D
  · subst c
    unfold off at e
    rw [if_pos rfl] at e
    cases e
  · rw [off_ne c] at e ⊢
    rw [upd_ne c]
    exact e
theorem off_mono {D : Addr} {H H' : Hp} (s : Same H H') : Same (off D H) (off D H') := fun a u e => by
  by_cases c : a = D
  · subst c
    unfold off at e
    rw [if_pos rfl] at e
    cases e
  · rw [off_ne c] at e ⊢
    exact s _ _ e
theorem same_off {D : Addr} {H H' : Hp} (s : Same H H') (h : H D = none) : Same H (off D H') := fun a u e => by
  have c : a ≠ D := fun z => by subst z; rw [h] at e; cases e
  rw [off_ne c]
  exact s _ _ e
theorem sqT_off {K : PySem.W.Frag} {D t : Addr} {H : Hp} {xs ys : List V} (hD : H D = some (.lst ys)) (h : SqT K H t xs) : SqT K (off D H) t xs := by
  have ne : ∀ {o : HO}, H t = some o → (∀ l, o ≠ .lst l) → off D H t = some o := fun {o} e no => by
    have c : t ≠ D := fun z => by
      subst z
      rw [hD] at e
      exact no _ (Option.some.inj e).symm
    rw [off_ne c]
    exact e
  rcases h with (h
        | ⟨o, h⟩) | h
  · exact Or.inl (Or.inl (ne h (fun l z => by cases z)))
  · exact Or.inl (Or.inr ⟨o, ne h (fun l z => by cases z)⟩)
  · exact Or.inr h
theorem slA_any {K : PySem.W.Frag} {H : Hp} {a : Addr} {xs : List V} {lo hi : Option Int} {Q : VK} (hS : SqT K H a xs) (q : ∀ r H', Same H H' → SqT K H' r (cutV xs lo hi) → Q (.ref r) H') : rSlA K (.ref a) lo hi H Q := by
  refine ⟨a, xs, rfl, hS, fun w => ?_, fun _ p hp => q p _ (same_new hp) (SqT.of upd_same)⟩
  refine q a H (Same.refl H) ?_
  have e : cutV xs lo hi = xs := by
    unfold cutV
    rw [w.1, w.2, List.drop_zero, Nat.sub_zero, List.take_length]
  rw [e]
  exact hS
theorem mem_cut {xs : List V} {lo hi : Option Int} {z : V} (h : z ∈ cutV xs lo hi) : z ∈ xs := List.mem_of_mem_drop (List.mem_of_mem_take h)
theorem catA_any {K : PySem.W.Frag} {H : Hp} {a b : Addr} {xs ys : List V} {Q : VK} (h1 : SqT K H a xs) (h2 : SqT K H b ys) (hz : xs.length + ys.length ≤ sizeLine) (q : ∀ r H', Same H H' → SqT K H' r (xs ++ ys) → Q (.ref r) H') : rCatA K (.ref a) (.ref b) H Q := by
  refine ⟨a, b, xs, ys, rfl, rfl, h1, h2, hz, fun e => ?_, fun _ e => ?_, fun _ _ p hp => q p _ (same_new hp) (SqT.of upd_same)⟩
  · refine q b H (Same.refl H) ?_
    rw [e]
    exact h2
  · refine q a H (Same.refl H) ?_
    rw [e, List.append_nil]
    exact h1
end Ur
namespace K05
open PySem L2 Ur Hull
abbrev sBent : Stmt := top 47
abbrev sOdd : Stmt := top 48
def ShE (K : PySem.W.Frag) (H : Hp) (v : V) : Prop := ∃ b c, Shp K H v b c
theorem ShE.same {K : PySem.W.Frag} {H H' : Hp} {v : V} (s : Same H H') (h : ShE K H v) : ShE K H' v := by
  obtain ⟨b, c, h⟩ := h
  exact ⟨b, c, h.same s⟩
theorem al_of {K : PySem.W.Frag} {H : Hp} {R : List Int → Prop} : ∀ {zs : List V}, (∀ z ∈ zs, ∃ p, Tp K H z p ∧ R p) → ∃ ps, Al (Tp K H) zs ps ∧ ∀ p ∈ ps, R p
  | [], _ => ⟨[], ⟨rfl, fun i y p a => by simp at a⟩, fun p h => absurd h List.not_mem_nil⟩
  | z :: zs, h => by
    obtain ⟨p, tp, rp⟩ := h z List.mem_cons_self
    obtain ⟨ps, hA, hR⟩ := al_of (zs := zs) fun y hy => h y (List.mem_cons_of_mem _ hy)
    refine ⟨p :: ps, ⟨by rw [List.length_cons, List.length_cons, hA.len], fun i y q a b => ?_⟩, fun q hq => (List.mem_cons.mp hq).elim (fun e => e ▸ rp) (hR q)⟩
    cases i with
    | zero =>
      cases a
      cases b
      exact tp
    | succ i => exact hA.at_ i y q (by simpa using a) (by simpa using b)
/-- a row of points -/
theorem shp_pt {K : PySem.W.Frag} {H : Hp} {a : Addr} {zs : List V} {S : Nat} (hS : SqT K H a zs) (h : ∀ z ∈ zs, ∃ p, Tp K H z p ∧ Pt3 CB p ∧ w3 p ∣ S) (h0 : 0 < S) (h1 : S < SB) (hl : zs.length ≤ 100) : ShE K H (.ref a) := by
  obtain ⟨ps, hA, hR⟩ := al_of (R := fun p => Pt3 CB p ∧ w3 p ∣ S) h
  by_cases e : zs = []
  · subst e
    exact ⟨_, _, .emp hS⟩
  · have hn := hA.len
    have h0' : 0 < zs.length := List.length_pos_iff.mpr e
    exact ⟨_, _, .pts hS hA ⟨by omega, fun p hp => (hR p hp).1, fun p hp => (hR p hp).2, h0, h1⟩ (by omega) (by omega)⟩
open Classical in
theorem shp_odd {K : PySem.W.Frag} {H : Hp} {a : Addr} {zs : List V} (hS : SqT K H a zs) (hl : zs.length ≤ 1000) (h : ∀ z ∈ zs, ∃ b, SpI K H z b) {y : V} (hy : y ∈ zs) (no : SpI K H y false) : ShE K H (.ref a) := by
  obtain ⟨i0, hi0, ei⟩ := List.getElem_of_mem hy
  refine ⟨_, _, .odd (fun i => decide (¬ SpI K H (zs.getD i .non) false)) hS hl (fun i z hi => ?_) ⟨i0, hi0, ?_⟩⟩
  · have ez : zs.getD i .non = z := by rw [List.getD_eq_getElem?_getD, hi]; rfl
    rw [ez]
    by_cases c : SpI K H z false
    · rw [decide_eq_false (not_not.mpr c)]
      exact c
    · obtain ⟨b, hb⟩ := h z (List.mem_of_getElem? hi)
      rw [decide_eq_true c]
      cases b with
      | true => exact hb
      | false => exact absurd hb c
  · have ez : zs.getD i0 .non = y := by rw [List.getD_eq_getElem?_getD, List.getElem?_eq_getElem hi0, ei]; rfl
    show decide (¬ SpI K H (zs.getD i0 .non) false) = false
    rw [ez]
    exact decide_eq_false (not_not.mpr no)
theorem spi_ints {K : PySem.W.Frag} {H : Hp} {t : Addr} {ns : List Int} (h : SqT K H t (ns.map V.int)) (hl : ns.length ≤ 1000) (hb : ∀ n ∈ ns, n.natAbs < 2 ^ 9000) : SpI K H (.ref t) (isPt (ns.map V.int)) := by
  refine ⟨.tup, _, arg_ints h hl hb, ⟨⟨.tup, tup_kd h⟩, tupD ns, .tup h (dpAll_ints ns), lay_ints ns, ?_⟩, rfl⟩
  show PyData.depthAll (ns.map PyData.int) + 1 ≤ 8
  rw [depth_ints]
  decide
theorem spi_kd {K : PySem.W.Frag} {H : Hp} {y : V} {k : Kd} {d : PyData} (h : OfKd K H y k) (hk : k ≠ .tup) (hd : Dp K H y d) (hl : d.canLay0 = true) (hp : d.depth ≤ 8) : SpI K H y false :=
  ⟨k, [], ⟨h, fun e => absurd e hk⟩, ⟨⟨k, h⟩, d, hd, hl, hp⟩, by rw [beq_no hk]; rfl⟩
theorem spi_int {K : PySem.W.Frag} {H : Hp} (i : Int) : SpI K H (.int i) false := spi_kd (k := .int) (.base (.int i)) (by decide) (.int i) rfl (Nat.zero_le _)
theorem spi_non {K : PySem.W.Frag} {H : Hp} : SpI K H .non false := spi_kd (k := .non) (.base .non) (by decide) .non rfl (Nat.zero_le _)
theorem spi_lst {K : PySem.W.Frag} {H : Hp} {l : Addr} {ns : List Int} (h : H l = some (.lst (ns.map V.int))) : SpI K H (.ref l) false := by
  refine spi_kd (k := .lst) (.base (.lst h)) (by decide) (dp_list h (dpAll_ints ns)) (lay_ints ns) ?_
  show PyData.depthAll (ns.map PyData.int) + 1 ≤ 8
  rw [depth_ints]
  decide
def spOddB (K : PySem.W.Frag) : Sp := fun vs H Q _ => ∃ (u : Addr) (v : V) (p : List Int) (x y w : Int), vs = [.ref u, v] ∧ H u = some (UrnO u) ∧ Tp K H v p ∧ PtL 100 p x y w ∧ ∀ (z : V) H', Same H H' → (∀ D l, H D = some (.lst l) → SpI K (off D H') z false) → Q z H'
theorem new_off {D p : Addr} {H H' : Hp} {l : List V} (hD : H D = some (.lst l)) (hp : H p = none) : off D H' p = H' p := off_ne fun z => by subst z; rw [hD] at hp; cases hp
theorem none_back {H H' : Hp} {p : Addr} (s : Same H H') (h : H' p = none) : H p = none := by
  cases e : H p with
  | none => rfl
  | some o => rw [s _ _ e] at h; cases h
section
variable {P' : Program} {w : World} {K :
      PySem.W.Frag} {mg : Str → Option Value} {base : Heap}
abbrev n_odd : List Str := ["_law_urn_here", "_law_spot_here", "_law_some"]
abbrev p_odd : List Str := ["_law_urn_here", "_law_spot_here"]
theorem sc_odd : FnScope n_odd p_odd (defScope sOdd) := ⟨rfl, rfl, rfl, by decide +kernel, rfl, by decide +kernel, by decide +kernel⟩
theorem ok_odd {f : Addr} {fd : FuncData} (F : Fun K "_law_odd" "_law_odd" sOdd f fd) (T : Bl mg) (H_law_any : Has P' w K mg base "_law_any" p_law_any 2 spAny) : FnOk P' w K mg base CX0 3 f fd p_odd (spOddB K) := by
  refine F.ok sc_odd (fun vs H Q E h => ?_) (fun cdv A outer s H vs Q E hr h => ?_)
  · obtain ⟨_, _, _, _, _, _, rfl, _⟩ := h
    rfl
  · obtain ⟨u, v, p, x, y, w, rfl, hu0, ⟨ts, rfl, hS⟩, PA, q⟩ := h
    have ep := PA.eq
    subst ep
    refine ⟨_, (pss_cons (ps_set (i := 2) sc_odd.nd rfl (Or.inl rfl) (pe_lst (pa_cons (pe_tup (pa_cons (pe_op op_mul pe_int (pe_ix (r := rIxT K) ix_tup (pv 1) pe_int (fun _ _ => rfl))) (pa_cons (pe_op op_mul pe_int (pe_ix (r := rIxT K) ix_tup (pv 1) pe_int (fun _ _ => rfl))) (pa_cons (pe_op op_mul pe_int (pe_ix (r := rIxT K) ix_tup (pv 1) pe_int (fun _ _ => rfl))) pa_nil)))) (pa_cons (pe_tup (pa_cons (pe_ix (r := rIxT K) ix_tup (pv 1) pe_int (fun _ _ => rfl)) (pa_cons (pe_ix (r := rIxT K) ix_tup (pv 1) pe_int (fun _ _ => rfl)) (pa_cons (pe_un un_neg (pe_ix (r := rIxT K) ix_tup (pv 1) pe_int (fun _ _ => rfl))) pa_nil)))) (pa_cons (pe_tup (pa_cons (pe_ix (r := rIxT K) ix_tup (pv 1) pe_int (fun _ _ => rfl)) (pa_cons (pe_ix (r := rIxT K) ix_tup (pv 1) pe_int (fun _ _ => rfl)) (pa_cons pe_int pa_nil)))) pa_nil)))))
      (pss_one (ps_ret (pe_has H_law_any (hr.mono (by decide)) (by rfl) (pa_cons (pv 0) (pa_cons (pe_op op_cat (pv 2) (pe_lst (pa_cons (pe_callTy call_list_of (by rfl) T.list PyProof.Rows.boot_list (pa_cons (pv 1) pa_nil)) (pa_cons pe_non (pa_cons pe_int (pa_cons (pe_slice sl_tupA (pv 1) po_none (po_some pe_int)) pa_nil)))))) pa_nil)))))), ?_⟩
    have b64 : ∀ {i : Int}, (-(2 ^ 64 : Int) < 2 ∧ (2 : Int) < 2 ^ 64) ∨ (-(2 ^ 64 : Int) < i ∧ i < 2 ^ 64) := Or.inl ⟨by decide, by decide⟩
    refine ⟨_, rfl, ts, _, 0, _, rfl, rfl, same_sqT (Same.refl H) hS, rfl, _, _, rfl, rfl, Or.inl ⟨by decide, by decide⟩, _, rfl, ts, _, 1, _, rfl, rfl, same_sqT (Same.refl H) hS, rfl, _, _, rfl, rfl, Or.inl ⟨by decide, by decide⟩, _, rfl, ts, _, 2, _, rfl, rfl, same_sqT (Same.refl H) hS, rfl, _, _, rfl, rfl, Or.inl ⟨by decide, by decide⟩, by show 3 ≤ sizeLine; decide, fun p1 hp1 => ?_⟩
    have n1 := same_new (H := H) (p := p1) (o := HO.tup [V.int (2 * x), .int (2 * y), .int (2 * w)]) hp1
    have S1 := (Same.refl H).trans n1
    have q1 : (upd H p1 (HO.tup [V.int (2 * x), .int (2 * y), .int (2 * w)])) p1 = some (HO.tup [V.int (2 * x), .int (2 * y), .int (2 * w)]) := upd_same
    have f1 : H p1 = none := none_back (Same.refl H) hp1
    generalize upd H p1 (HO.tup [V.int (2 * x), .int (2 * y), .int (2 * w)]) = G1 at n1 S1 q1 ⊢
    refine ⟨_, rfl, ts, _, 0, _, rfl, rfl, same_sqT S1 hS, rfl, _, rfl, ts, _, 1, _, rfl, rfl, same_sqT S1 hS, rfl, _, rfl, ts, _, 2, _, rfl, rfl, same_sqT S1 hS, rfl, _, rfl, by show 3 ≤ sizeLine; decide, fun p2 hp2 => ?_⟩
    have n2 := same_new (H := G1) (p := p2) (o := HO.tup [V.int x, .int y, .int (-w)]) hp2
    have S2 := S1.trans n2
    have q2 : (upd G1 p2 (HO.tup [V.int x, .int y, .int (-w)])) p2 = some (HO.tup [V.int x, .int y, .int (-w)]) := upd_same
    have f2 : H p2 = none := none_back S1 hp2
    generalize upd G1 p2 (HO.tup [V.int x, .int y, .int (-w)]) = G2 at n2 S2 q2 ⊢
    refine ⟨_, rfl, ts, _, 0, _, rfl, rfl, same_sqT S2 hS, rfl, _, rfl, ts, _, 1, _, rfl, rfl, same_sqT S2 hS, rfl, by show 3 ≤ sizeLine; decide, fun p3 hp3 => ?_⟩
    have n3 := same_new (H := G2) (p := p3) (o := HO.tup [V.int x, .int y, .int 0]) hp3
    have S3 := S2.trans n3
    have q3 : (upd G2 p3 (HO.tup [V.int x, .int y, .int 0])) p3 = some (HO.tup [V.int x, .int y, .int 0]) := upd_same
    have f3 : H p3 = none := none_back S2 hp3
    generalize upd G2 p3 (HO.tup [V.int x, .int y, .int 0]) = G3 at n3 S3 q3 ⊢
    refine ⟨by show 3 ≤ sizeLine; decide, fun p4 hp4 => ?_⟩
    have n4 := same_new (H := G3) (p := p4) (o := HO.lst [V.ref p1, .ref p2, .ref p3]) hp4
    have S4 := S3.trans n4
    have q4 : (upd G3 p4 (HO.lst [V.ref p1, .ref p2, .ref p3])) p4 = some (HO.lst [V.ref p1, .ref p2, .ref p3]) := upd_same
    have f4 : H p4 = none := none_back S3 hp4
    generalize upd G3 p4 (HO.lst [V.ref p1, .ref p2, .ref p3]) = G4 at n4 S4 q4 ⊢
    refine ⟨_, rfl, _, rfl, _, rfl, ts, _, rfl, Or.inr (same_sqT S4 hS), fun p5 hp5 => ?_⟩
    have n5 := same_new (H := G4) (p := p5) (o := HO.lst ([x, y, w].map V.int)) hp5
    have S5 := S4.trans n5
    have q5 : (upd G4 p5 (HO.lst ([x, y, w].map V.int))) p5 = some (HO.lst ([x, y, w].map V.int)) := upd_same
    have f5 : H p5 = none := none_back S4 hp5
    generalize upd G4 p5 (HO.lst ([x, y, w].map V.int)) = G5 at n5 S5 q5 ⊢
    refine ⟨_, rfl, 2, rfl, slA_any (same_sqT S5 hS) fun p6 Gs ss h6 => ?_⟩
    have h6 : SqT K Gs p6 ([x, y].map V.int) := h6
    have S6 := S5.trans ss
    refine ⟨by show 4 ≤ sizeLine; decide, fun p7 hp7 => ?_⟩
    have n7 := same_new (p := p7) (o := HO.lst [V.ref p5, .non, .int 7, .ref p6]) hp7
    have q7 : (upd Gs p7 (.lst [V.ref p5, .non, .int 7, .ref p6])) p7 = some (.lst [V.ref p5, .non, .int 7, .ref p6]) := upd_same
    generalize upd Gs p7 (.lst [V.ref p5, .non, .int 7, .ref p6]) = G7 at n7 q7 ⊢
    refine ⟨p4, p7, [V.ref p1, .ref p2, .ref p3], [V.ref p5, .non, .int 7, .ref p6], rfl, rfl, ((n5.trans ss).trans n7) _ _ q4, q7, by show 3 + 4 ≤ sizeLine; decide, fun p8 hp8 => ?_⟩
    have n8 := same_new (p := p8) (o := HO.lst ([V.ref p1, .ref p2, .ref p3] ++ [V.ref p5, .non, .int 7, .ref p6])) hp8
    have S8 := S6.trans (n7.trans n8)
    refine ⟨u, p8, _, rfl, S8 _ _ hu0, upd_same, by show 0 < 7; decide, by show 7 ≤ 1000; decide, fun z H9 hz s9 => ?_⟩
    have S9 := S8.trans s9
    refine q z H9 S9 fun D l hD => ?_
    have hD9 := S9 _ _ hD
    have c5 := ss.trans (n7.trans (n8.trans s9))
    have c4 := n5.trans c5
    have c3 := n4.trans c4
    have c2 := n3.trans c3
    have c1 := n2.trans c2
    have b9 : ∀ {i : Int}, i.natAbs ≤ 200 → i.natAbs < 2 ^ 9000 := fun h => Nat.lt_of_lt_of_le (Nat.lt_of_le_of_lt h (by decide : 200 < 2 ^ 8)) (Nat.pow_le_pow_right (by decide) (by decide))
    have bx := PA.bx
    have bby := PA.bby
    have bw := PA.bw
    have hw := PA.pos
    have tri : ∀ {t : Addr} {i j k : Int}, SqT K H9 t ([i, j, k].map V.int) → i.natAbs ≤ 200 → j.natAbs ≤ 200 → k.natAbs ≤ 200 → isPt ([i, j, k].map V.int) = false → SpI K (off D H9) (.ref t) false := fun {t i j k} h h1 h2 h3 h4 => by
      have := spi_ints (sqT_off hD9 h) (by simp) fun n hn => by
        simp only [List.mem_cons, List.not_mem_nil, or_false] at hn
        rcases hn with rfl | rfl | rfl
        · exact b9 h1
        · exact b9 h2
        · exact b9 h3
      rw [h4] at this
      exact this
    rcases List.mem_append.mp
          hz with hz | hz
    · simp only [List.mem_cons, List.not_mem_nil, or_false] at hz
      rcases hz with rfl | rfl | rfl
      · refine tri (i := 2 * x) (j := 2 * y) (k := 2 * w) (same_sqT c1 (SqT.of q1)) (by omega) (by omega) (by omega) ?_
        show (decide (0 < 2 * w) && decide (Nat.gcd (Nat.gcd (2 * x).natAbs (2 * y).natAbs) (2 * w).natAbs = 1)) = false
        have : Nat.gcd (Nat.gcd (2 * x).natAbs (2 * y).natAbs) (2 * w).natAbs ≠ 1 := fun e => by
          have d : 2 ∣ Nat.gcd (Nat.gcd (2 * x).natAbs (2 * y).natAbs) (2 * w).natAbs := Nat.dvd_gcd (Nat.dvd_gcd ⟨x.natAbs, by omega⟩ ⟨y.natAbs, by omega⟩) ⟨w.natAbs, by omega⟩
          rw [e] at d
          omega
        rw [decide_eq_false this, Bool.and_false]
      · refine tri (i := x) (j := y) (k := -w) (same_sqT c2 (SqT.of q2)) (by omega) (by omega) (by omega) ?_
        show (decide (0 < -w) && _) = false
        rw [decide_eq_false (by omega), Bool.false_and]
      · refine tri (i := x) (j := y) (k := 0) (same_sqT c3 (SqT.of q3)) (by omega) (by omega) (by omega) ?_
        show (decide ((0 : Int) < 0) && decide (Nat.gcd (Nat.gcd x.natAbs y.natAbs) (0 : Int).natAbs = 1)) = false
        rw [decide_eq_false (by omega), Bool.false_and]
    · simp only [List.mem_cons, List.not_mem_nil, or_false] at hz
      rcases hz with rfl | rfl | rfl | rfl
      · refine spi_lst (ns := [x, y, w]) ?_
        rw [new_off hD f5]
        exact c5 _ _ q5
      · exact spi_non
      · exact spi_int 7
      · have := spi_ints (ns := [x, y]) (sqT_off hD9 (same_sqT (n7.trans (n8.trans s9)) h6)) (by simp) fun n hn => by
          simp only [List.mem_cons, List.not_mem_nil, or_false] at hn
          rcases hn with rfl | rfl
          · exact b9 (by omega)
          · exact b9 (by omega)
        exact this
end
end K05

namespace K05
open PySem L2 Ur Hull
def spBent (K : PySem.W.Frag) : Sp := fun vs H Q _ => ∃ (u : Addr) (v : V) (xs : List V) (pts : List (List Int)) (S : Nat), vs = [.ref u, v] ∧ H u = some (UrnO u) ∧ SecV K H v xs pts S ∧ Tny pts S ∧ Sml pts S ∧
  ∀ (D : Addr) (zs : List V) H', Same H H' → H' D = some (.lst zs) → zs.length = 17 → (∀ z ∈ zs, ShE K H' z) → Q (.ref D) H'
theorem tup2 {K : PySem.W.Frag} {H : Hp} {p : Addr} {x y : Int} (h : H p = none) : Tp K (upd H p (.tup [V.int x, .int y])) (.ref p) [x, y] := ⟨p, rfl, SqT.of upd_same⟩
theorem w3_pt {n : Nat} {p : List Int} {x y w : Int} (A : PtL n p x y w) : w3 p = w.natAbs ∧ 0 < w3 p ∧ w3 p ≤ n := by
  have e : w3 p = w.natAbs := by rw [A.eq]; rfl
  have := A.pos
  have := A.bw
  exact ⟨e, by omega, by omega⟩
theorem isPt_ref {a : Addr} {r : List V} : isPt (V.ref a :: r) = false := by
  unfold isPt
  split
  · rename_i h
    cases h
  · rfl
theorem shp_tp {K : PySem.W.Frag} {H : Hp} {v : V} {p : List Int} {n : Nat} (h : Tp K H v p) (hp : Pt3 n p) : ShE K H v := by
  obtain ⟨t, rfl, st⟩ := h
  obtain ⟨x, y, w, A⟩ := hp
  rw [A.eq] at st
  refine shp_odd st (by show 3 ≤ 1000; decide) (fun z hz => ?_) (y := V.int x) List.mem_cons_self (spi_int x)
  obtain ⟨i, _, rfl⟩ := List.mem_map.mp hz
  exact ⟨_, spi_int i⟩
theorem spi_plate {K : PySem.W.Frag} {H : Hp} {tp : Addr} {xs : List V} {pts : List (List Int)} (hS : SqT K H tp xs) (hA : Al (Tp K H) xs pts) (ok : ∀ p ∈ pts, Pt3 CB p) (hl : pts.length ≤ 8) (h3 : 3 ≤ pts.length) : SpI K H (.ref tp) false := by
  have hn := hA.len
  have item : ∀ y ∈ xs, ∃ p, p ∈ pts ∧ Tp K H y p := fun y hy => by
    obtain ⟨i, hi, ei⟩ := List.getElem_of_mem hy
    obtain ⟨p, hp, tp'⟩ := hA.get (List.getElem?_eq_getElem hi)
    rw [ei] at tp'
    exact ⟨p, List.mem_of_getElem? hp, tp'⟩
  refine ⟨.tup, xs, ⟨tup_kd hS, fun _ => ⟨tp, rfl, hS, by omega, fun y hy => ?_, fun i hi => ?_⟩⟩, ⟨⟨.tup, tup_kd hS⟩, .tuple (pts.map tupD), .tup hS (al_data hA), lay_tups pts, ?_⟩, ?_⟩
  · obtain ⟨p, hp, t⟩ := item y hy
    obtain ⟨_, _, _, h, _⟩ := tp_spi t (ok p hp)
    exact h
  · obtain ⟨p, hp, t, e, _⟩ := item _ hi
    cases e
  · show PyData.depthAll (pts.map tupD) + 1 ≤ 8
    have := depth_tups pts
    omega
  · cases xs with
    | nil => simp at hn; omega
    | cons y r =>
      obtain ⟨p, hp, t, e, _⟩ := item y List.mem_cons_self
      subst e
      rw [isPt_ref]
      rfl
section
variable {P' : Program} {w : World} {K :
      PySem.W.Frag} {mg : Str → Option Value} {base : Heap}
abbrev n_bent : List Str := ["_law_urn_here", "_law_plate_here", "_law_k", "_law_many", "_law_halfway", "_law_inward", "_law_some", "_law_spot_here"]
abbrev p_bent : List Str := ["_law_urn_here", "_law_plate_here"]
theorem sc_bent : FnScope n_bent p_bent (defScope sBent) := ⟨rfl, rfl, rfl, by decide +kernel, rfl, by decide +kernel, by decide +kernel⟩
set_option
      maxHeartbeats 4000000 in
theorem ok_bent {f : Addr} {fd : FuncData} (F : Fun K "_law_bent" "_law_bent" sBent f fd) (T : Bl mg) (H_law_pull : Has P' w K mg base "_law_pull" ["_law_urn_here", "_law_many"] 1 spPull) (H_law_on : Has P' w K mg base "_law_on" p_lon 4 (spP2 K sumL)) (H_law_by : Has P' w K mg base "_law_by" p_lby 4 (spPF K byL)) (H_law_edge : Has P' w K mg base "_law_edge" p_pk 5 (spEdge K)) (H_law_way : Has P' w K mg base "_law_way" p_lway 4 (spP2 K wayL)) (H_law_middle : Has P' w K mg base "_law_middle" p_lspots 5 (spMid K)) (H_law_any : Has P' w K mg base "_law_any" p_law_any 2 spAny) (H_law_odd : Has P' w K mg base "_law_odd" p_odd 3 (spOddB K)) : FnOk P' w K mg base CX0 7 f fd p_bent (spBent K) := by
  refine F.ok sc_bent (fun vs H Q E h => ?_) (fun cdv A outer s H vs Q E hr h => ?_)
  · obtain ⟨_, _, _, _, _, rfl, _⟩ := h
    rfl
  · obtain ⟨u, v, xs, pts, S, rfl, hu0, hV, hT, hM, q⟩ := h
    have hu : (A.deeper (PyProof.Rows.envOfC "_law_bent" (defScope sBent) s.heap.objs.size f cdv)).units + 64 < cLine := hr.units
    refine ⟨_, (pss_mid (ps_par (i := 2) (j := 3) rfl sc_bent.nd rfl rfl (by decide) rfl rfl (pa_cons (pe_has H_law_pull (hr.mono (by decide)) (by rfl) (pa_cons (pv 0) (pa_cons (pe_callB (r := Ur.rLen K) Ur.len_seq (by rfl) T.len PySem.boot_len (pa_cons (pv 1) pa_nil)) pa_nil))) (pa_cons (pe_callB (r := Ur.rLen K) Ur.len_seq (by rfl) T.len PySem.boot_len (pa_cons (pv 1) pa_nil)) pa_nil)) (by rfl))
      (pss_mid (ps_set (i := 4) sc_bent.nd rfl (Or.inl rfl) (pe_has H_law_on (hr.mono (by decide)) (by rfl) (pa_cons (pe_ix (r := rIxT K) ix_tup (pv 1) (pv 2) (fun _ _ => rfl)) (pa_cons (pe_has H_law_by (hr.mono (by decide)) (by rfl) (pa_cons (pe_has H_law_edge (hr.mono (by decide)) (by rfl) (pa_cons (pv 1) (pa_cons (pv 2) pa_nil))) (pa_cons (pe_tup (pa_cons pe_int (pa_cons pe_int pa_nil))) pa_nil))) pa_nil))))
      (pss_mid (ps_set (i := 5) sc_bent.nd rfl (Or.inl rfl) (pe_has H_law_on (hr.mono (by decide)) (by rfl) (pa_cons (pe_ix (r := rIxT K) ix_tup (pv 1) (pv 2) (fun _ _ => rfl)) (pa_cons (pe_has H_law_by (hr.mono (by decide)) (by rfl) (pa_cons (pe_has H_law_way (hr.mono (by decide)) (by rfl) (pa_cons (pe_ix (r := rIxT K) ix_tup (pv 1) (pv 2) (fun _ _ => rfl)) (pa_cons (pe_has H_law_middle (hr.mono (by decide)) (by rfl) (pa_cons (pv 1) pa_nil)) pa_nil))) (pa_cons (pe_has H_law_any (hr.mono (by decide)) (by rfl) (pa_cons (pv 0) (pa_cons (pe_lst (pa_cons (pe_tup (pa_cons pe_int (pa_cons pe_int pa_nil))) (pa_cons (pe_tup (pa_cons pe_int (pa_cons pe_int pa_nil))) (pa_cons (pe_tup (pa_cons pe_int (pa_cons pe_int pa_nil))) (pa_cons (pe_tup (pa_cons (pe_un un_neg pe_int) (pa_cons pe_int pa_nil))) pa_nil))))) pa_nil))) pa_nil))) pa_nil))))
      (pss_mid (ps_set (i := 6) sc_bent.nd rfl (Or.inl rfl) (pe_lst (pa_cons (pe_op op_catA (pe_slice sl_tupA (pv 1) (po_some (pv 2)) po_none) (pe_slice sl_tupA (pv 1) po_none (po_some (pv 2)))) (pa_cons (pe_revT (pv 1)) (pa_cons (pe_op op_catA (pe_slice sl_tupA (pv 1) po_none (po_some pe_int)) (pe_rev0 (pv 1))) pa_nil)))))
      (pss_mid (ps_expr (pe_bm PySem.F.plainAttrs_list PySem.F.slot_list_append PySem.F.type_list_append mt_append (pv 6) (pa_cons (pe_op op_catA (pe_op op_catA (pe_slice sl_tupA (pv 1) po_none (po_some (pe_op op_add (pv 2) pe_int))) (pe_tup (pa_cons (pv 4) pa_nil))) (pe_slice sl_tupA (pv 1) (po_some (pe_op op_add (pv 2) pe_int)) po_none)) pa_nil)))
      (pss_mid (ps_expr (pe_bm PySem.F.plainAttrs_list PySem.F.slot_list_append PySem.F.type_list_append mt_append (pv 6) (pa_cons (pe_op op_catA (pe_op op_catA (pe_slice sl_tupA (pv 1) po_none (po_some (pv 2))) (pe_op op_repT (pe_slice sl_tupA (pv 1) (po_some (pv 2)) (po_some (pe_op op_add (pv 2) pe_int))) pe_int)) (pe_slice sl_tupA (pv 1) (po_some (pe_op op_add (pv 2) pe_int)) po_none)) pa_nil)))
      (pss_mid (ps_expr (pe_bm PySem.F.plainAttrs_list PySem.F.slot_list_append PySem.F.type_list_append mt_append (pv 6) (pa_cons (pe_op op_catA (pe_op op_catA (pe_slice sl_tupA (pv 1) po_none (po_some (pv 2))) (pe_tup (pa_cons (pv 5) pa_nil))) (pe_slice sl_tupA (pv 1) (po_some (pe_op op_add (pv 2) pe_int)) po_none)) pa_nil)))
      (pss_mid (ps_expr (pe_bm PySem.F.plainAttrs_list PySem.F.slot_list_append PySem.F.type_list_append mt_append (pv 6) (pa_cons (pe_op op_catA (pe_op op_catA (pe_slice sl_tupA (pv 1) po_none (po_some (pv 2))) (pe_tup (pa_cons (pe_has H_law_odd (hr.mono (by decide)) (by rfl) (pa_cons (pv 0) (pa_cons (pe_ix (r := rIxT K) ix_tup (pv 1) (pv 2) (fun _ _ => rfl)) pa_nil))) pa_nil))) (pe_slice sl_tupA (pv 1) (po_some (pe_op op_add (pv 2) pe_int)) po_none)) pa_nil)))
      (pss_mid (ps_set (i := 6) sc_bent.nd rfl (Or.inl rfl) (pe_op op_cat (pv 6) (pe_lst (pa_cons (pe_callTy call_list_of (by rfl) T.list PyProof.Rows.boot_list (pa_cons (pv 1) pa_nil)) (pa_cons (pe_slice sl_tupA (pv 1) po_none (po_some pe_int)) (pa_cons (pe_slice sl_tupA (pv 1) po_none (po_some pe_int)) (pa_cons (pe_ix (r := rIxT K) ix_tup (pv 1) (pv 2) (fun _ _ => rfl)) (pa_cons (pe_tup (pa_cons (pv 1) pa_nil)) (pa_cons (pe_op op_catA (pv 1) (pv 1)) (pa_cons (pe_op op_catA (pe_slice sl_tupA (pv 1) po_none (po_some (pv 2))) (pe_slice sl_tupA (pv 1) (po_some (pe_op op_add (pv 2) pe_int)) po_none)) pa_nil))))))))))
      (pss_one (ps_ret (pe_op op_cat (pv 6) (pe_lst (pa_cons (pe_callTy call_tuple_of (by rfl) T.tuple PyProof.Rows.boot_tuple (pa_cons (pe_lc (own := [("_law_spot_here", 7)]) (g := gName 7) (tt := tYes) rfl sc_bent.nd (pi_tup (pv 1)) (blkOk_by (N := n_bent) (sc := defScope sBent) (by decide +kernel)) (fun _ _ _ _ _ => pg_name (i := 7) sc_bent.nd rfl (Or.inl rfl)) (fun _ _ _ _ _ => pts_nil) (fun _ _ _ _ _ => (pe_slice (r := rSlA K) sl_tupA (pv 7) po_none (po_some pe_int)))) pa_nil)) (pa_cons (pe_revT (pe_slice sl_tupA (pv 1) po_none (po_some pe_int))) (pa_cons (pe_tup (pa_cons (pe_ix (r := rIxT K) ix_tup (pv 1) (pv 2) (fun _ _ => rfl)) (pa_cons (pe_ix (r := rIxT K) ix_tup (pv 1) (pe_op op_mod (pe_callTy call_int1 (by rfl) T.int PyProof.Rows.boot_int (pa_cons (pe_op op_add (pv 2) pe_int) pa_nil)) (pv 3)) (fun _ _ => rfl)) pa_nil))) pa_nil)))))))))))))))), ?_⟩
    obtain ⟨tp, rfl, hS⟩ := hV.ref
    obtain ⟨hl, h3, h8⟩ := sec_lens hV
    have hs := hV.sec
    have h0 := hs.pol.scb.s0
    have w1 : 100 ≤ WB := Nat.le_trans (by decide : 100 ≤ 2 ^ 7) (pwb (by decide))
    refine ⟨fun σ' H' => ∃ (k : Nat), σ' = [some (.ref u), some (.ref tp), some (.int (k : Nat)), some (.int (xs.length : Nat)), none, none, none, none] ∧ Same H H' ∧ k < pts.length, ?_, ?_⟩
    · refine ⟨_, rfl, _, rfl, tp, xs, rfl, Or.inr hS, u, ((xs.length : Nat) : Int), rfl, hu0, by omega, by omega, fun k0 H1 k00 k01 s1 => ?_⟩
      obtain ⟨k, rfl⟩ := Int.eq_ofNat_of_zero_le k00
      exact ⟨_, rfl, tp, xs, rfl, Or.inr (same_sqT s1 hS), _, _, rfl, k, rfl, s1, by omega⟩
    rintro σ1 H1 ⟨k, rfl, s1, hk⟩
    obtain ⟨x, hx, tx⟩ := hV.cor hk
    obtain ⟨X, Y, W, C⟩ := ptA_ok hT hk
    obtain ⟨X1, Y1, W1, C1⟩ := ed_pt hT hk
    have F12 : FrL (2 ^ 4) [1, 2] 1 2 := ⟨rfl, by decide, by decide, by decide, by decide⟩
    obtain ⟨_, _, _, _, _, _, _, _, PB⟩ := pt_by C1 F12
    have PB := PB.up (by decide : 2 ^ 15 * 2 ^ 4 ≤ 2 ^ 19)
    obtain ⟨_, hpx, hpy, hpw, _, _, _, _, PH⟩ := pt_sum C PB
    have PH := PH.up (by decide : 100 * 2 ^ 19 + 2 ^ 19 * 100 ≤ 2 ^ 30)
    -- halfway
    refine ⟨fun σ' H' => ∃ (v4 : V), σ' = [some (.ref u), some (.ref tp), some (.int (k : Nat)), some (.int (xs.length : Nat)), some v4, none, none, none] ∧ Same H1 H' ∧ Tp K H' v4 (sumL (ptA pts k) (byL (edL pts k) [1, 2])), ?_, ?_⟩
    · refine ⟨_, rfl, _, rfl, tp, xs, _, x, rfl, rfl, same_sqT s1 hS, atI_nat hx, ?_⟩
      refine ⟨_, rfl, _, rfl, .ref tp, k, xs, pts, S, rfl, hV.same s1, hT, hk, fun p Ha sa ta => ⟨by show 2 ≤ sizeLine; decide, fun p1 hp1 => ?_⟩⟩
      have n1 := same_new (p := p1) (o := HO.tup [V.int 1, .int 2]) hp1
      refine ⟨p, .ref p1, _, _, _, _, _, _, _, _, _, rfl, ta.same n1, tup2 hp1, C1, F12, pwb (by decide), pwb (by decide), fun r1 Hb sb t1 => ?_⟩
      have sab := sa.trans (n1.trans sb)
      exact ⟨x, r1, _, _, _, _, _, _, _, _, _, _, rfl, tx.same (s1.trans sab), t1, C, PB, w1, pwb (by decide), fun r2 Hc sc t2 => ⟨r2, rfl, sab.trans sc, t2⟩⟩
    rintro σ2 H2 ⟨v4, rfl, s2, t4⟩
    have z2 := s1.trans s2
    have hV2 := hV.same z2
    -- inward
    refine ⟨fun σ' H' => ∃ (v5 : V) (ip : List Int) (ix iy iw : Int), σ' = [some (.ref u), some (.ref tp), some (.int (k : Nat)), some (.int (xs.length : Nat)), some v4, some v5, none, none] ∧ Same H2 H' ∧ Tp K H' v5 ip ∧ PtL (2 ^ 400) ip ix iy iw, ?_, ?_⟩
    · refine ⟨_, rfl, _, rfl, tp, xs, _, x, rfl, rfl, same_sqT z2 hS, atI_nat hx, ?_⟩
      refine ⟨_, rfl, _, rfl, tp, xs, _, x, rfl, rfl, same_sqT z2 hS, atI_nat hx, ?_⟩
      refine ⟨_, rfl, .ref tp, xs, pts, S, rfl, hV2, hM, fun p pm MX MY MW Ha sa tm PM _ => ?_⟩
      obtain ⟨_, _, _, _, _, _, _, _, PW⟩ := pt_way C PM
      have PW := PW.up (by decide : 2 ^ 310 * 100 + 100 * 2 ^ 310 ≤ 2 ^ 318)
      refine ⟨x, p, _, _, _, _, _, _, _, _, 100, 2 ^ 310, rfl, tx.same (z2.trans sa), tm, C, PM, w1, pwb (by decide), fun r1 Hb sb u1 => ?_⟩
      have sab := sa.trans sb
      refine ⟨_, rfl, by show 2 ≤ sizeLine; decide, fun p1 hp1 => ?_⟩
      have n1 := same_new (p := p1) (o := HO.tup [V.int 1, .int 2]) hp1
      have f1 := tup2 (K := K) (x := 1) (y := 2) hp1
      generalize upd Hb p1 (.tup [V.int 1, .int 2]) = G1 at n1 f1 ⊢
      refine ⟨by show 2 ≤ sizeLine; decide, fun p2 hp2 => ?_⟩
      have n2 := same_new (p := p2) (o := HO.tup [V.int 1, .int 9]) hp2
      have f2 := tup2 (K := K) (x := 1) (y := 9) hp2
      generalize upd G1 p2 (.tup [V.int 1, .int 9]) = G2 at n2 f2 ⊢
      refine ⟨by show 2 ≤ sizeLine; decide, fun p3 hp3 => ?_⟩
      have n3 := same_new (p := p3) (o := HO.tup [V.int 1, .int 1]) hp3
      have f3 := tup2 (K := K) (x := 1) (y := 1) hp3
      generalize upd G2 p3 (.tup [V.int 1, .int 1]) = G3 at n3 f3 ⊢
      refine ⟨_, rfl, by show 2 ≤ sizeLine; decide, fun p4 hp4 => ?_⟩
      have n4 := same_new (p := p4) (o := HO.tup [V.int (-1), .int 5]) hp4
      have f4 := tup2 (K := K) (x := -1) (y := 5) hp4
      generalize upd G3 p4 (.tup [V.int (-1), .int 5]) = G4 at n4 f4 ⊢
      refine ⟨by show 4 ≤ sizeLine; decide, fun p5 hp5 => ?_⟩
      have n5 := same_new (p := p5) (o := HO.lst [V.ref p1, .ref p2, .ref p3, .ref p4]) hp5
      have s15 := n1.trans (n2.trans (n3.trans (n4.trans n5)))
      refine ⟨u, p5, [.ref p1, .ref p2, .ref p3, .ref p4], rfl, ((z2.trans sab).trans s15) _ _ hu0, upd_same, by show 0 < 4; decide, by show 4 ≤ 1000; decide, fun x' Hc hx' sc => ?_⟩
      have fx : ∃ (c : List Int) (n m : Int), Tp K Hc x' c ∧ FrL (2 ^ 4) c n m := by
        simp only [List.mem_cons, List.not_mem_nil, or_false] at hx'
        rcases hx' with rfl | rfl | rfl | rfl
        · exact ⟨[1, 2], 1, 2, f1.same ((n2.trans (n3.trans (n4.trans n5))).trans sc), ⟨rfl, by decide, by decide, by decide, by decide⟩⟩
        · exact ⟨[1, 9], 1, 9, f2.same ((n3.trans (n4.trans n5)).trans sc), ⟨rfl, by decide, by decide, by decide, by decide⟩⟩
        · exact ⟨[1, 1], 1, 1, f3.same ((n4.trans n5).trans sc), ⟨rfl, by decide, by decide, by decide, by decide⟩⟩
        · exact ⟨[-1, 5], -1, 5, f4.same (n5.trans sc), ⟨rfl, by decide, by decide, by decide, by decide⟩⟩
      obtain ⟨c, n, m, tc, FC⟩ := fx
      have s1c := s15.trans sc
      obtain ⟨_, _, _, _, _, _, _, _, PB'⟩ := pt_by PW FC
      have PB' := PB'.up (pw1 (Nat.le_refl _) (Nat.le_refl _))
      obtain ⟨_, _, _, _, _, _, _, _, PZ⟩ := pt_sum C PB'
      have PZ := PZ.up (Nat.le_trans (by decide : 100 * 2 ^ (318 + 4) + 2 ^ (318 + 4) * 100 ≤ 2 ^ 332) (pup (by decide) : _ ≤ 2 ^ 400))
      refine ⟨r1, x', _, _, _, _, _, _, _, _, _, rfl, u1.same s1c, tc, PW, FC, pwb (by decide), pwb (by decide), fun r2 Hd sd u2 => ?_⟩
      have sad := sab.trans (s1c.trans sd)
      refine ⟨x, r2, _, _, _, _, _, _, _, _, _, _, rfl, tx.same (z2.trans sad), u2, C, PB', w1, pwb (by decide), fun r3 He se u3 => ?_⟩
      exact ⟨r3, _, _, _, _, rfl, sad.trans se, u3, PZ⟩
    rintro σ3 H3 ⟨v5, ip, ix, iy, iw, rfl, s3, t5, PI⟩
    have z3 := z2.trans s3
    have hV3 := hV.same z3
    have t43 := t4.same s3
    have hS3 := same_sqT z3 hS
    have cb : ∀ {n : Nat} {p : List Int}, n ≤ 400 → Pt3 (2 ^ n) p → Pt3 CB p := fun h hp => hp.up (by unfold CB; exact pup (by omega))
    obtain ⟨wh1, wh2, wh3⟩ := w3_pt PH
    obtain ⟨wi1, wi2, wi3⟩ := w3_pt PI
    obtain ⟨SS, eSS⟩ : ∃ SS, SS = S * (w3 (sumL (ptA pts k) (byL (edL pts k) [1, 2])) * w3 ip) := ⟨_, rfl⟩
    have SS0 : 0 < SS := by rw [eSS]; exact Nat.mul_pos h0 (Nat.mul_pos wh2 wi2)
    have SS1 : SS < SB := by
      rw [eSS]
      have e1 : S * (w3 (sumL (ptA pts k) (byL (edL pts k) [1, 2])) * w3 ip) ≤ 2 ^ 3 * (2 ^ 30 * 2 ^ 400) := Nat.mul_le_mul (Nat.le_trans hT.s1 (by decide)) (Nat.mul_le_mul wh3 wi3)
      rw [← Nat.pow_add, ← Nat.pow_add] at e1
      refine Nat.lt_of_le_of_lt e1 ?_
      unfold SB
      exact Nat.pow_lt_pow_right (by decide) (by decide)
    -- what may stand in a row
    have pc : ∀ {H' : Hp}, Same H3 H' → ∀ z, (z ∈ xs ∨ z = v4 ∨ z = v5) → ∃ p, Tp K H' z p ∧ Pt3 CB p ∧ w3 p ∣ SS := fun {H'} sm z hz => by
      rcases hz with hz | rfl | rfl
      · obtain ⟨i, hi, ei⟩ := List.getElem_of_mem hz
        obtain ⟨p, hp, tp'⟩ := hV3.al.get (List.getElem?_eq_getElem hi)
        rw [ei] at tp'
        have hm := List.mem_of_getElem? hp
        exact ⟨p, tp'.same sm, hs.pol.scb.ok p hm, by rw [eSS]; exact Nat.dvd_trans (hs.pol.scb.dvd p hm) (Nat.dvd_mul_right _ _)⟩
      · exact ⟨_, t43.same sm, cb (by decide) ⟨_, _, _, PH⟩, by rw [eSS]; exact Nat.dvd_trans (Nat.dvd_mul_right _ _) (Nat.dvd_mul_left _ _)⟩
      · exact ⟨_, t5.same sm, cb (by decide) ⟨_, _, _, PI⟩, by rw [eSS]; exact Nat.dvd_trans (Nat.dvd_mul_left _ _) (Nat.dvd_mul_left _ _)⟩
    have mk : ∀ {H' : Hp} {a : Addr} {zs : List V}, Same H3 H' → SqT K H' a zs → (∀ z ∈ zs, z ∈ xs ∨ z = v4 ∨ z = v5) → zs.length ≤ 100 → ShE K H' (.ref a) := fun sm h1 h2 h3 => shp_pt h1 (fun z hz => pc sm z (h2 z hz)) SS0 SS1 h3
    have cl : ∀ (lo hi : Option Int), (cutV xs lo hi).length ≤ 8 := fun lo hi => Nat.le_trans (cutV_length xs lo hi) (by omega)
    have sz : ∀ {n : Nat}, n ≤ 100 → n ≤ sizeLine := fun h => Nat.le_trans h (by decide)
    -- rows turned and turned round
    refine ⟨fun σ' H' => ∃ (D : Addr) (ys : List V), σ' = [some (.ref u), some (.ref tp), some (.int (k : Nat)), some (.int (xs.length : Nat)), some v4, some v5, some (.ref D), none] ∧ Same H3 H' ∧ H3 D = none ∧ H' D = some (.lst ys) ∧ ys.length = 3 ∧ ∀ z ∈ ys, ShE K (off D H') z, ?_, ?_⟩
    · refine ⟨_, rfl, _, rfl, _, rfl, ?_⟩
      unfold tNoPart
      dsimp only
      refine slA_any hS3 fun r1 Ha sa t1 => ?_
      refine ⟨_, rfl, _, rfl, _, rfl, slA_any (same_sqT sa hS3) fun r2 Hb sb t2 => ?_⟩
      refine catA_any (same_sqT sb t1) t2 (sz (Nat.le_trans (Nat.add_le_add (cl _ _) (cl _ _)) (by decide))) fun r3 Hc sc t3 => ?_
      have s3c := sa.trans (sb.trans sc)
      refine ⟨_, rfl, tp, xs, rfl, same_sqT s3c hS3, fun r4 hr4 => ?_⟩
      have n4 := same_new (p := r4) (o := HO.tup xs.reverse) hr4
      have t4' : SqT K (upd Hc r4 (.tup xs.reverse)) r4 xs.reverse := SqT.of upd_same
      generalize upd Hc r4 (.tup xs.reverse) = Hd at n4 t4' ⊢
      have s3d := s3c.trans n4
      refine ⟨_, rfl, 1, rfl, slA_any (same_sqT s3d hS3) fun r5 He se t5' => ?_⟩
      refine ⟨_, rfl, tp, xs, rfl, same_sqT (s3d.trans se) hS3, by omega, fun r6 hr6 => ?_⟩
      have n6 := same_new (p := r6) (o := HO.tup (xs.drop 1).reverse) hr6
      have t6' : SqT K (upd He r6 (.tup (xs.drop 1).reverse)) r6 (xs.drop 1).reverse := SqT.of upd_same
      generalize upd He r6 (.tup (xs.drop 1).reverse) = Hf at n6 t6' ⊢
      have l6 : (xs.drop 1).reverse.length ≤ 8 := by rw [List.length_reverse, List.length_drop]; omega
      refine catA_any (same_sqT n6 t5') t6' (sz (Nat.le_trans (Nat.add_le_add (cl _ _) l6) (by decide))) fun r7 Hg sg t7 => ?_
      have s3g := (s3d.trans se).trans (n6.trans sg)
      refine ⟨by show 3 ≤ sizeLine; decide, fun D hD => ?_⟩
      have nD := same_new (p := D) (o := HO.lst [V.ref r3, .ref r4, .ref r7]) hD
      have hD' : (upd Hg D (.lst [V.ref r3, .ref r4, .ref r7])) D = some (.lst [V.ref r3, .ref r4, .ref r7]) := upd_same
      have H3D := none_back s3g hD
      refine ⟨D, _, rfl, s3g.trans nD, H3D, hD', rfl, fun z hz => ?_⟩
      have so := same_off (D := D) (s3g.trans nD) H3D
      simp only [List.mem_cons, List.not_mem_nil, or_false] at hz
      rcases hz with rfl | rfl | rfl
      · refine mk so (sqT_off hD' (same_sqT ((n4.trans se).trans ((n6.trans sg).trans nD)) t3)) (fun z hz => ?_) (by rw [List.length_append]; exact Nat.le_trans (Nat.add_le_add (cl _ _) (cl _ _)) (by decide))
        exact Or.inl ((List.mem_append.mp hz).elim mem_cut mem_cut)
      · refine mk so (sqT_off hD' (same_sqT (se.trans ((n6.trans sg).trans nD)) t4')) (fun z hz => Or.inl (List.mem_reverse.mp hz)) (by rw [List.length_reverse]; omega)
      · refine mk so (sqT_off hD' (same_sqT nD t7)) (fun z hz => ?_) (by rw [List.length_append]; exact Nat.le_trans (Nat.add_le_add (cl _ _) l6) (by decide))
        exact Or.inl ((List.mem_append.mp hz).elim mem_cut fun h => List.mem_of_mem_drop (List.mem_reverse.mp h))
    rintro σ4 H4 ⟨D, y4, rfl, s4, nD, hD4, l4, e4⟩
    have app : ∀ {Hx Hy : Hp} {y : List V} {r : V}, Same H3 Hx → (∀ z ∈ y, ShE K (off D Hx) z) → Same Hx Hy → ShE K (off D Hy) r → Same H3 (upd Hy D (.lst (y ++ [r]))) ∧ ∀ z ∈ y ++ [r], ShE K (off D (upd Hy D (.lst (y ++ [r])))) z := fun s1 h1 s2 h2 => by
      refine ⟨same_own (s1.trans s2) nD, fun z hz => ?_⟩
      rcases List.mem_append.mp
            hz with hz | hz
      · exact (h1 z hz).same ((off_mono s2).trans off_upd)
      · rw [List.mem_singleton.mp
            hz]
        exact h2.same off_upd
    have cutk : cutV xs (some (k : Int)) (some ((k : Int) + 1)) ≠ [] := fun e => by
      have e' := congrArg List.length e
      have ek : (k : Int) + 1 = ((k + 1 : Nat) : Int) := by omega
      rw [ek] at e'
      unfold cutV at e'
      rw [HT.sIx_nat, HT.sIx_nat, List.length_take, List.length_drop, List.length_nil] at e'
      omega
    have in2 : ∀ {z : V} {l m : List V}, z ∈ l ++ m → (∀ z ∈ l, z ∈ xs ∨ z = v4 ∨ z = v5) → (∀ z ∈ m, z ∈ xs ∨ z = v4 ∨ z = v5) → z ∈ xs ∨ z = v4 ∨ z = v5 := fun h h1 h2 => (List.mem_append.mp h).elim (h1 _) (h2 _)
    have inc : ∀ (lo hi : Option Int), ∀ z ∈ cutV xs lo hi, z ∈ xs ∨ z = v4 ∨ z = v5 := fun lo hi z hz => Or.inl (mem_cut hz)
    refine ⟨fun σ' H' => ∃ (ys : List V), σ' = [some (.ref u), some (.ref tp), some (.int (k : Nat)), some (.int (xs.length : Nat)), some v4, some v5, some (.ref D), none] ∧ Same H3 H' ∧ H' D = some (.lst ys) ∧ ys.length = 4 ∧ ∀ z ∈ ys, ShE K (off D H') z, ?_, ?_⟩
    · refine ⟨_, rfl, Or.inl ⟨rfl, _, SqL.of hD4⟩, ?_⟩
      refine ⟨_, rfl, _, rfl, _, _, rfl, rfl, _, rfl, slA_any (same_sqT s4 hS3) fun r1 Ha sa t1 => ?_⟩
      refine ⟨_, rfl, by show 1 ≤ sizeLine; decide, fun p1 hp1 => ?_⟩
      have n1 := same_new (p := p1) (o := HO.tup [v4]) hp1
      have q1 : SqT K (upd Ha p1 (.tup [v4])) p1 [v4] := SqT.of upd_same
      generalize upd Ha p1 (.tup [v4]) = Hb at n1 q1 ⊢
      refine catA_any (same_sqT n1 t1) q1 (sz (Nat.le_trans (Nat.add_le_add (cl _ _) (Nat.le_refl 1)) (by decide))) fun r2 Hc sc t2 => ?_
      refine ⟨_, rfl, _, rfl, _,
            _, rfl, rfl, _, rfl, ?_⟩
      unfold tNoPart
      dsimp only
      refine slA_any (same_sqT (s4.trans (sa.trans (n1.trans sc))) hS3) fun r3 Hd sd t3 => ?_
      refine catA_any (same_sqT sd t2) t3 (sz ?_) fun r9 He se t9 => ?_
      · rw [List.length_append]
        exact Nat.le_trans (Nat.add_le_add (Nat.add_le_add (cl _ _) (Nat.le_refl 1)) (cl _ _)) (by decide)
      have sx := sa.trans (n1.trans (sc.trans (sd.trans se)))
      have hDx := sx _ _ hD4
      have sy := s4.trans sx
      have shr : ShE K (off D He) (.ref r9) := mk (same_off sy nD) (sqT_off hDx t9) (fun z hz => in2 hz (fun z hz => in2 hz (inc _ _) fun z hz => by
        rw [List.mem_singleton.mp hz]
        exact Or.inr (Or.inl rfl)) (inc _ _)) (by
        rw [List.length_append, List.length_append]
        exact Nat.le_trans (Nat.add_le_add (Nat.add_le_add (cl _ _) (Nat.le_refl 1)) (cl _ _)) (by decide))
      obtain ⟨g1, g2⟩ := app s4 e4 sx shr
      exact ⟨D, y4, .ref r9, rfl, rfl, hDx, by rw [l4]; show 3 < sizeLine; decide, y4 ++ [.ref r9], rfl, g1, upd_same, by rw [List.length_append, l4]; rfl, g2⟩
    rintro σ5 H5 ⟨y5, rfl, s5, hD5, l5, e5⟩
    refine ⟨fun σ' H' => ∃ (ys : List V), σ' = [some (.ref u), some (.ref tp), some (.int (k : Nat)), some (.int (xs.length : Nat)), some v4, some v5, some (.ref D), none] ∧ Same H3 H' ∧ H' D = some (.lst ys) ∧ ys.length = 5 ∧ ∀ z ∈ ys, ShE K (off D H') z, ?_, ?_⟩
    · refine ⟨_, rfl, Or.inl ⟨rfl, _, SqL.of hD5⟩, ?_⟩
      refine ⟨_, rfl, _, rfl, _, rfl, slA_any (same_sqT s5 hS3) fun r1 Ha sa t1 => ?_⟩
      refine ⟨_, rfl, _, rfl, _, rfl, _, rfl, _, _, rfl, rfl, _, rfl, slA_any (same_sqT (s5.trans sa) hS3) fun r2 Hb sb t2 => ?_⟩
      refine ⟨r2, 2, _, rfl, rfl, t2, cutk, by decide, by decide, Nat.le_trans (cl _ _) (by decide), fun p1 hp1 => ?_⟩
      have n1 := same_new (p := p1) (o := HO.tup (List.replicate (2 : Int).toNat (cutV xs (some (k : Int)) (some ((k : Int) + 1)))).flatten) hp1
      have q1 : SqT K (upd Hb p1 (.tup (List.replicate (2 : Int).toNat (cutV xs (some (k : Int)) (some ((k : Int) + 1)))).flatten)) p1 (List.replicate (2 : Int).toNat (cutV xs (some (k : Int)) (some ((k : Int) + 1)))).flatten := SqT.of upd_same
      have rl : (List.replicate (2 : Int).toNat (cutV xs (some (k : Int)) (some ((k : Int) + 1)))).flatten.length ≤ 16 := by
        show (cutV xs (some (k : Int)) (some ((k : Int) + 1)) ++ (cutV xs (some (k : Int)) (some ((k : Int) + 1)) ++ [])).length ≤ 16
        rw [List.length_append, List.append_nil]
        exact Nat.add_le_add (cl _ _) (cl _ _)
      have rm : ∀ z ∈ (List.replicate (2 : Int).toNat (cutV xs (some (k : Int)) (some ((k : Int) + 1)))).flatten, z ∈ xs ∨ z = v4 ∨ z = v5 := fun z hz => by
        obtain ⟨l, h1, h2⟩ := List.mem_flatten.mp hz
        rw [(List.mem_replicate.mp h1).2] at h2
        exact inc _ _ z h2
      generalize upd Hb p1 (.tup (List.replicate (2 : Int).toNat (cutV xs (some (k : Int)) (some ((k : Int) + 1)))).flatten) = Hc at n1 q1 ⊢
      generalize (List.replicate (2 : Int).toNat (cutV xs (some (k : Int)) (some ((k : Int) + 1)))).flatten = dd at q1 rl rm ⊢
      refine catA_any (same_sqT (sb.trans n1) t1) q1 (sz (Nat.le_trans (Nat.add_le_add (cl _ _) rl) (by decide))) fun r3 Hd sd t3 => ?_
      refine ⟨_, rfl, _, rfl, _,
            _, rfl, rfl, _, rfl, ?_⟩
      unfold tNoPart
      dsimp only
      refine slA_any (same_sqT (s5.trans (sa.trans (sb.trans (n1.trans sd)))) hS3) fun r4 He se t4' => ?_
      refine catA_any (same_sqT se t3) t4' (sz ?_) fun r9 Hf sf t9 => ?_
      · rw [List.length_append]
        exact Nat.le_trans (Nat.add_le_add (Nat.add_le_add (cl _ _) rl) (cl _ _)) (by decide)
      have sx := sa.trans (sb.trans (n1.trans (sd.trans (se.trans sf))))
      have hDx := sx _ _ hD5
      have sy := s5.trans sx
      have shr : ShE K (off D Hf) (.ref r9) := mk (same_off sy nD) (sqT_off hDx t9) (fun z hz => in2 hz (fun z hz => in2 hz (inc _ _) rm) (inc _ _)) (by
        rw [List.length_append, List.length_append]
        exact Nat.le_trans (Nat.add_le_add (Nat.add_le_add (cl _ _) rl) (cl _ _)) (by decide))
      obtain ⟨g1, g2⟩ := app s5 e5 sx shr
      exact ⟨D, y5, .ref r9, rfl, rfl, hDx, by rw [l5]; show 4 < sizeLine; decide, y5 ++ [.ref r9], rfl, g1, upd_same, by rw [List.length_append, l5]; rfl, g2⟩
    rintro σ6 H6 ⟨y6, rfl, s6, hD6, l6, e6⟩
    refine ⟨fun σ' H' => ∃ (ys : List V), σ' = [some (.ref u), some (.ref tp), some (.int (k : Nat)), some (.int (xs.length : Nat)), some v4, some v5, some (.ref D), none] ∧ Same H3 H' ∧ H' D = some (.lst ys) ∧ ys.length = 6 ∧ ∀ z ∈ ys, ShE K (off D H') z, ?_, ?_⟩
    · refine ⟨_, rfl, Or.inl ⟨rfl, _, SqL.of hD6⟩, ?_⟩
      refine ⟨_, rfl, _, rfl, _, rfl, slA_any (same_sqT s6 hS3) fun r1 Ha sa t1 => ?_⟩
      refine ⟨_, rfl, by show 1 ≤ sizeLine; decide, fun p1 hp1 => ?_⟩
      have n1 := same_new (p := p1) (o := HO.tup [v5]) hp1
      have q1 : SqT K (upd Ha p1 (.tup [v5])) p1 [v5] := SqT.of upd_same
      generalize upd Ha p1 (.tup [v5]) = Hb at n1 q1 ⊢
      refine catA_any (same_sqT n1 t1) q1 (sz (Nat.le_trans (Nat.add_le_add (cl _ _) (Nat.le_refl 1)) (by decide))) fun r2 Hc sc t2 => ?_
      refine ⟨_, rfl, _, rfl, _,
            _, rfl, rfl, _, rfl, ?_⟩
      unfold tNoPart
      dsimp only
      refine slA_any (same_sqT (s6.trans (sa.trans (n1.trans sc))) hS3) fun r3 Hd sd t3 => ?_
      refine catA_any (same_sqT sd t2) t3 (sz ?_) fun r9 He se t9 => ?_
      · rw [List.length_append]
        exact Nat.le_trans (Nat.add_le_add (Nat.add_le_add (cl _ _) (Nat.le_refl 1)) (cl _ _)) (by decide)
      have sx := sa.trans (n1.trans (sc.trans (sd.trans se)))
      have hDx := sx _ _ hD6
      have sy := s6.trans sx
      have shr : ShE K (off D He) (.ref r9) := mk (same_off sy nD) (sqT_off hDx t9) (fun z hz => in2 hz (fun z hz => in2 hz (inc _ _) fun z hz => by
        rw [List.mem_singleton.mp hz]
        exact Or.inr (Or.inr rfl)) (inc _ _)) (by
        rw [List.length_append, List.length_append]
        exact Nat.le_trans (Nat.add_le_add (Nat.add_le_add (cl _ _) (Nat.le_refl 1)) (cl _ _)) (by decide))
      obtain ⟨g1, g2⟩ := app s6 e6 sx shr
      exact ⟨D, y6, .ref r9, rfl, rfl, hDx, by rw [l6]; show 5 < sizeLine; decide, y6 ++ [.ref r9], rfl, g1, upd_same, by rw [List.length_append, l6]; rfl, g2⟩
    rintro σ7 H7 ⟨y7, rfl, s7, hD7, l7, e7⟩
    refine ⟨fun σ' H' => ∃ (ys : List V), σ' = [some (.ref u), some (.ref tp), some (.int (k : Nat)), some (.int (xs.length : Nat)), some v4, some v5, some (.ref D), none] ∧ Same H3 H' ∧ H' D = some (.lst ys) ∧ ys.length = 7 ∧ ∀ z ∈ ys, ShE K (off D H') z, ?_, ?_⟩
    · refine ⟨_, rfl, Or.inl ⟨rfl, _, SqL.of hD7⟩, ?_⟩
      refine ⟨_, rfl, _, rfl, _, rfl, slA_any (same_sqT s7 hS3) fun r1 Ha sa t1 => ?_⟩
      have s3a := s7.trans sa
      refine ⟨_, rfl, _, rfl, _, rfl, tp, xs, _, x, rfl, rfl, same_sqT s3a hS3, atI_nat hx, u, x, _, X, Y, W, rfl, (z3.trans s3a) _ _ hu0, tx.same (z3.trans s3a), C, fun zo Hb sb ho => ⟨by show 1 ≤ sizeLine; decide, fun p1 hp1 => ?_⟩⟩
      have ho := ho D _ (sa _ _ hD7)
      have n1 := same_new (p := p1) (o := HO.tup [zo]) hp1
      have q1 : SqT K (upd Hb p1 (.tup [zo])) p1 [zo] := SqT.of upd_same
      generalize upd Hb p1 (.tup [zo]) = Hc at n1 q1 ⊢
      refine catA_any (same_sqT (sb.trans n1) t1) q1 (sz (Nat.le_trans (Nat.add_le_add (cl _ _) (Nat.le_refl 1)) (by decide))) fun r2 Hd sd t2 => ?_
      refine ⟨_, rfl, _, rfl, _,
            _, rfl, rfl, _, rfl, ?_⟩
      unfold tNoPart
      dsimp only
      refine slA_any (same_sqT (s3a.trans (sb.trans (n1.trans sd))) hS3) fun r3 He se t3 => ?_
      refine catA_any (same_sqT se t2) t3 (sz ?_) fun r9 Hf sf t9 => ?_
      · rw [List.length_append]
        exact Nat.le_trans (Nat.add_le_add (Nat.add_le_add (cl _ _) (Nat.le_refl 1)) (cl _ _)) (by decide)
      have sx := sa.trans (sb.trans (n1.trans (sd.trans (se.trans sf))))
      have hDx := sx _ _ hD7
      have sy := s7.trans sx
      have ho' := ho.same (off_mono (n1.trans (sd.trans (se.trans sf))))
      have cx : ∀ (lo hi : Option Int), ∀ z ∈ cutV xs lo hi, ∃ b, SpI K (off D Hf) z b := fun lo hi z hz => by
        obtain ⟨p, h1, h2, _⟩ := pc (same_off sy nD) z (Or.inl (mem_cut hz))
        exact ⟨_, tp_spi h1 h2⟩
      have shr : ShE K (off D Hf) (.ref r9) := shp_odd (sqT_off hDx t9) (by
        rw [List.length_append, List.length_append]
        exact Nat.le_trans (Nat.add_le_add (Nat.add_le_add (cl _ _) (Nat.le_refl 1)) (cl _ _)) (by decide)) (fun z hz => by
        rcases List.mem_append.mp
              hz with hz | hz
        · rcases List.mem_append.mp hz with hz | hz
          · exact cx _ _ z hz
          · rw [List.mem_singleton.mp
                hz]
            exact ⟨_, ho'⟩
        · exact cx _ _ z hz) (List.mem_append_left _ (List.mem_append_right _ (List.mem_singleton.mpr rfl))) ho'
      obtain ⟨g1, g2⟩ := app s7 e7 sx shr
      exact ⟨D, y7, .ref r9, rfl, rfl, hDx, by rw [l7]; show 6 < sizeLine; decide, y7 ++ [.ref r9], rfl, g1, upd_same, by rw [List.length_append, l7]; rfl, g2⟩
    rintro σ8 H8 ⟨y8, rfl, s8, hD8, l8, e8⟩
    have z8 := z3.trans s8
    have pl : ∀ {H' : Hp}, Same H8 H' → SpI K H' (.ref tp) false := fun s' => spi_plate (same_sqT (z8.trans s') hS) (hV.al.mono fun _ _ k => k.same (z8.trans s')) hs.pol.scb.ok h8 h3
    refine ⟨fun σ' H' => ∃ (D2 : Addr) (ys : List V), σ' = [some (.ref u), some (.ref tp), some (.int (k : Nat)), some (.int (xs.length : Nat)), some v4, some v5, some (.ref D2), none] ∧ Same H8 H' ∧ H' D2 = some (.lst ys) ∧ ys.length = 14 ∧ ∀ z ∈ ys, ShE K H' z, ?_, ?_⟩
    · refine ⟨_, rfl, _, rfl, tp, xs, rfl, Or.inr (same_sqT z8 hS), fun b1 hb1 => ?_⟩
      have n1 := same_new (p := b1) (o := HO.lst xs) hb1
      have q1 : (upd H8 b1 (.lst xs)) b1 = some (.lst xs) := upd_same
      generalize upd H8 b1 (.lst xs) = Ha at n1 q1 ⊢
      refine ⟨_, rfl, 1, rfl, slA_any (same_sqT (z8.trans n1) hS) fun r2 Hb sb t2 => ?_⟩
      have a2 := n1.trans sb
      refine ⟨_, rfl, 2, rfl, slA_any (same_sqT (z8.trans a2) hS) fun r3 Hc sc t3 => ?_⟩
      have a3 := a2.trans sc
      refine ⟨_, rfl, _, rfl, tp, xs, _, x, rfl, rfl, same_sqT (z8.trans a3) hS, atI_nat hx, ?_⟩
      refine ⟨_, rfl, by show 1 ≤ sizeLine; decide, fun b5 hb5 => ?_⟩
      have n5 := same_new (p := b5) (o := HO.tup [V.ref tp]) hb5
      have q5 : SqT K (upd Hc b5 (.tup [V.ref tp])) b5 [V.ref tp] := SqT.of upd_same
      generalize upd Hc b5 (.tup [V.ref tp]) = Hd at n5 q5 ⊢
      have a5 := a3.trans n5
      refine ⟨_, rfl, _, rfl, catA_any (same_sqT (z8.trans a5) hS) (same_sqT (z8.trans a5) hS) (sz (by omega)) fun r6 He se t6 => ?_⟩
      have a6 := a5.trans se
      refine ⟨_, rfl, _, rfl, _, rfl, slA_any (same_sqT (z8.trans a6) hS) fun r7 Hf sf t7 => ?_⟩
      have a7 := a6.trans sf
      refine ⟨_, rfl, _, rfl, _,
            _, rfl, rfl, _, rfl, ?_⟩
      unfold tNoPart
      dsimp only
      refine slA_any (same_sqT (z8.trans a7) hS) fun r8 Hg sg t8 => ?_
      refine catA_any (same_sqT sg t7) t8 (sz (Nat.le_trans (Nat.add_le_add (cl _ _) (cl _ _)) (by decide))) fun r9 Hh sh t9 => ?_
      have a9 := a7.trans (sg.trans sh)
      refine ⟨by show 7 ≤ sizeLine; decide, fun L hL => ?_⟩
      have nL := same_new (p := L) (o := HO.lst [V.ref b1, .ref r2, .ref r3, x, .ref b5, .ref r6, .ref r9]) hL
      have qL : (upd Hh L (.lst [V.ref b1, .ref r2, .ref r3, x, .ref b5, .ref r6, .ref r9])) L = some (.lst [V.ref b1, .ref r2, .ref r3, x, .ref b5, .ref r6, .ref r9]) := upd_same
      generalize upd Hh L (.lst [V.ref b1, .ref r2, .ref r3, x, .ref b5, .ref r6, .ref r9]) = Hi at nL qL ⊢
      have aL := a9.trans nL
      refine ⟨D, L, y8, [V.ref b1, .ref r2, .ref r3, x, .ref b5, .ref r6, .ref r9], rfl, rfl, aL _ _ hD8, qL, by rw [l8]; show 7 + 7 ≤ sizeLine; decide, fun D2 hD2 => ?_⟩
      have nD2 := same_new (p := D2) (o := HO.lst (y8 ++ [V.ref b1, .ref r2, .ref r3, x, .ref b5, .ref r6, .ref r9])) hD2
      refine ⟨D2, _, rfl, aL.trans nD2, upd_same, by rw [List.length_append, l8]; rfl, fun z hz => ?_⟩
      rcases List.mem_append.mp
            hz with hz | hz
      · exact (e8 z hz).same (off_same.trans (aL.trans nD2))
      generalize upd Hi D2 (.lst (y8 ++ [V.ref b1, .ref r2, .ref r3, x, .ref b5, .ref r6, .ref r9])) = Hj at nD2 ⊢
      have c9 := sh.trans (nL.trans nD2)
      have c8 := sg.trans c9
      have c7 := sf.trans c8
      have c6 := se.trans c7
      have c5 := n5.trans c6
      have c3 := sc.trans c5
      have aJ := aL.trans nD2
      have s3J := s8.trans aJ
      simp only [List.mem_cons, List.not_mem_nil, or_false] at hz
      rcases hz with rfl | rfl | rfl | rfl | rfl | rfl | rfl
      · exact ⟨_, _, .no (k := .lst) (.base (.lst ((sb.trans c3) _ _ q1))) (by decide)⟩
      · exact mk s3J (same_sqT c3 t2) (inc _ _) (Nat.le_trans (cl _ _) (by decide))
      · exact mk s3J (same_sqT c5 t3) (inc _ _) (Nat.le_trans (cl _ _) (by decide))
      · exact shp_tp (tx.same (z8.trans aJ)) ⟨_, _, _, C⟩
      · exact shp_odd (same_sqT c6 q5) (by show 1 ≤ 1000; decide) (fun z hz => by rw [List.mem_singleton.mp hz]; exact ⟨_, pl aJ⟩) List.mem_cons_self (pl aJ)
      · exact mk s3J (same_sqT c7 t6) (fun z hz => Or.inl ((List.mem_append.mp hz).elim id id)) (by rw [List.length_append]; omega)
      · exact mk s3J (same_sqT (nL.trans nD2) t9) (fun z hz => in2 hz (inc _ _) (inc _ _)) (by rw [List.length_append]; exact Nat.le_trans (Nat.add_le_add (cl _ _) (cl _ _)) (by decide))
    rintro σ9 H9 ⟨D2, y9, rfl, s9, hD9, l9, e9⟩
    have z9 := z8.trans s9
    have s39 := s8.trans s9
    refine ⟨_, rfl, ?_⟩
    unfold tLst tCons tCB
    dsimp only
    refine lcTh (K := K) (a := tp) (xs := xs) (fun H' i y => Tp K H' y ((pts.getD i []).take 2)) (mono_tp fun i => (pts.getD i []).take 2) (fun R r => ⟨_, rfl, r⟩) (same_sqT z9 hS) (by omega) (fun _ => rfl) (fun i y Ha hi sa Q' q' => ?_) (fun Dl ys Ha hDl sa hy e1 e2 => ?_)
    · obtain ⟨p, hp, tp'⟩ := hV.al.get hi
      have gp : pts.getD i [] = p := by rw [List.getD_eq_getElem?_getD, hp]; rfl
      obtain ⟨x', y', w', A'⟩ := hT.ok p (List.mem_of_getElem? hp)
      have ep := A'.eq
      subst ep
      rw [gp] at q'
      obtain ⟨t, rfl, st⟩ := tp'.same (z9.trans sa)
      exact ⟨_, rfl, 2, rfl, slA_any st fun r Hb sb h2 => q' _ Hb ⟨r, rfl, h2⟩ sb⟩
    have za := z9.trans sa
    refine ⟨Dl, ys, rfl, Or.inl ⟨SqL.of hy, fun t1 ht1 => ?_⟩⟩
    have n1 := same_new (p := t1) (o := HO.tup ys) ht1
    have q1 : SqT K (upd Ha t1 (.tup ys)) t1 ys := SqT.of upd_same
    have y2 : ∀ z ∈ ys, SpI K (upd Ha t1 (.tup ys)) z false := fun z hz => by
      obtain ⟨i, hi, ei⟩ := List.getElem_of_mem hz
      have h2 := (e2 i z (by rw [List.getElem?_eq_getElem hi, ei])).same n1
      have hip : i < pts.length := by omega
      have gp : pts.getD i [] = pts[i] := by rw [List.getD_eq_getElem?_getD, List.getElem?_eq_getElem hip]; rfl
      rw [gp] at h2
      obtain ⟨x', y', w', A'⟩ := hT.ok _ (List.getElem_mem hip)
      rw [A'.eq] at h2
      obtain ⟨t, rfl, st⟩ := h2
      exact spi_ints (ns := [x', y']) st (by simp) fun n hn => by
        have b9 : ∀ {i : Int}, i.natAbs ≤ 100 → i.natAbs < 2 ^ 9000 := fun h => Nat.lt_of_lt_of_le (Nat.lt_of_le_of_lt h (by decide : 100 < 2 ^ 7)) (Nat.pow_le_pow_right (by decide) (by decide))
        simp only [List.mem_cons, List.not_mem_nil, or_false] at hn
        rcases hn with rfl | rfl
        · exact b9 A'.bx
        · exact b9 A'.bby
    generalize upd Ha t1 (.tup ys) = Hb at n1 q1 y2 ⊢
    have zb := za.trans n1
    refine ⟨_, rfl, 2, rfl, slA_any (same_sqT zb hS) fun r2 Hc sc t2 => ?_⟩
    refine ⟨r2, _, rfl, t2, fun t3 ht3 => ?_⟩
    have n3 := same_new (p := t3) (o := HO.tup (cutV xs none (some 2)).reverse) ht3
    have q3 : SqT K (upd Hc t3 (.tup (cutV xs none (some 2)).reverse)) t3 (cutV xs none (some 2)).reverse := SqT.of upd_same
    generalize upd Hc t3 (.tup (cutV xs none (some 2)).reverse) = Hd at n3 q3 ⊢
    have zd := zb.trans (sc.trans n3)
    refine ⟨_, rfl, _, rfl, tp, xs, _, x, rfl, rfl, same_sqT zd hS, atI_nat hx, ?_⟩
    have hk2 : (k + 2) % xs.length < pts.length := by rw [hl]; exact Nat.mod_lt _ (by omega)
    obtain ⟨x2, hx2, tx2⟩ := hV.cor hk2
    refine ⟨_, rfl, _, rfl, _, _, rfl, rfl, Or.inl ⟨_, rfl, _, rfl, _, _, rfl, rfl, by omega, tp, xs, _, x2, rfl, rfl, same_sqT zd hS, ?_, ?_⟩⟩
    · have ek : ((k : Int) + 2) % ((xs.length : Nat) : Int) = (((k + 2) % xs.length : Nat) : Int) := by
        rw [Int.natCast_emod, Int.natCast_add]
        rfl
      show atI xs (((k : Int) + 2) % ((xs.length : Nat) : Int)) = some x2
      rw [ek]
      exact atI_nat hx2
    refine ⟨by show 2 ≤ sizeLine; decide, fun t4 ht4 => ?_⟩
    have n4 := same_new (p := t4) (o := HO.tup [x, x2]) ht4
    have q4 : SqT K (upd Hd t4 (.tup [x, x2])) t4 [x, x2] := SqT.of upd_same
    generalize upd Hd t4 (.tup [x, x2]) = He at n4 q4 ⊢
    refine ⟨by show 3 ≤ sizeLine; decide, fun L hL => ?_⟩
    have nL := same_new (p := L) (o := HO.lst [V.ref t1, .ref t3, .ref t4]) hL
    have qL : (upd He L (.lst [V.ref t1, .ref t3, .ref t4])) L = some (.lst [V.ref t1, .ref t3, .ref t4]) := upd_same
    generalize upd He L (.lst [V.ref t1, .ref t3, .ref t4]) = Hf at nL qL ⊢
    have sf := sa.trans (n1.trans (sc.trans (n3.trans (n4.trans nL))))
    refine ⟨D2, L, y9, [V.ref t1, .ref t3, .ref t4], rfl, rfl, sf _ _ hD9, qL, by rw [l9]; show 14 + 3 ≤ sizeLine; decide, fun D3 hD3 => ?_⟩
    have nD3 := same_new (p := D3) (o := HO.lst (y9 ++ [V.ref t1, .ref t3, .ref t4])) hD3
    refine q D3 _ _ (z9.trans (sf.trans nD3)) upd_same (by rw [List.length_append, l9]; rfl) fun z hz => ?_
    generalize upd Hf D3 (.lst (y9 ++ [V.ref t1, .ref t3, .ref t4])) = Hg at nD3 ⊢
    have sg := sf.trans nD3
    have s3g := s39.trans sg
    have c4 := nL.trans nD3
    have c3 := n4.trans c4
    have c1 := sc.trans (n3.trans c3)
    rcases List.mem_append.mp
          hz with hz | hz
    · exact (e9 z hz).same sg
    simp only [List.mem_cons, List.not_mem_nil, or_false] at hz
    rcases hz with rfl | rfl | rfl
    · obtain ⟨y0, hy0⟩ : ∃ y0, y0 ∈ ys := by
        cases ys with
        | nil => simp at e1; omega
        | cons y0 r => exact ⟨y0, List.mem_cons_self⟩
      exact shp_odd (same_sqT c1 q1) (by omega) (fun z hz => ⟨_, (y2 z hz).same c1⟩) hy0 ((y2 _ hy0).same c1)
    · exact mk s3g (same_sqT c3 q3) (fun z hz => Or.inl (mem_cut (List.mem_reverse.mp hz))) (by rw [List.length_reverse]; exact Nat.le_trans (cl _ _) (by decide))
    · refine mk s3g (same_sqT c4 q4) (fun z hz => ?_) (by show 2 ≤ 100; decide)
      simp only [List.mem_cons, List.not_mem_nil, or_false] at hz
      rcases hz with rfl | rfl
      · exact Or.inl (List.mem_of_getElem? hx)
      · exact Or.inl (List.mem_of_getElem? hx2)
end
end K05

namespace Ur
open PySem L2
theorem call_tuple_ofK {X : Cx} {K : PySem.W.Frag} (hK : X.K = K) : CallR X (.type "tuple") (fun xs H Q => ∃ p ys, xs = [.ref p] ∧ ((SqL K H p ys ∧ ∀ l, H l = none → Q (.ref l) (upd H l (.tup ys))) ∨ (SqT K H p ys ∧ Q (.ref p) H))) := by
  subst hK
  exact call_tuple_of
/-- [elt for x in range(lo, hi)], lo below 0 too -/
theorem lcRgH {te : TE} {vs : List Nat} {j : Nat} {σ : L2.St} {Q : VK} {ta : TA} {lo hi : Int} {H0 : Hp} (Pe : Hp → Nat → V → Prop) (hm : Mono H0 Pe) (hx : ∀ R : List V → Hp → Prop, R [.int lo, .int hi] H0 → ta σ H0 R) (hl : -1000 ≤ lo ∧ lo ≤ 1000) (hh : 0 ≤ hi ∧ hi ≤ 10000) (hw : ∀ x, wipe ((wipe σ vs).set j (some x)) vs = wipe σ vs)
    (he : ∀ (i : Nat) H3, lo + (i : Int) < hi → Same H0 H3 → ∀ Q' : VK, (∀ y H4, Pe H4 i y → Same H3 H4 → Q' y H4) → te ((wipe σ vs).set j (some (.int (lo + (i : Int))))) H3 Q')
    (hq : ∀ D ys H', H0 D = none → Same H0 H' → H' D = some (.lst ys) → ys.length = (hi - lo).toNat → (∀ i y, ys[i]? = some y → Pe H' i y) → Q (.ref D) H') : tLc (iRng2 ta) (gName j) tYes te vs σ H0 Q := by
  refine hx _ ⟨lo, hi, rfl, ⟨by omega, by omega, by omega, by omega⟩, fun D hD => ?_⟩
  refine lc_range (lo := lo) (n := (hi - lo).toNat) (MadeH H0 Pe D) (.start hD) (fun i H' hi m => ⟨hw _, ?_⟩) (fun H' ⟨hn, sm, ys, h1, h2, h3⟩ => hq D ys H' hn sm h1 h2 h3)
  unfold tYes
  dsimp only
  rw [if_pos rfl]
  exact m.turn hm (by omega) (he i H' (by omega) m.same)
/-- [elt for x in a tuple shown] -/
theorem lcThx {K : PySem.W.Frag} {xs : List V} {tl te : TE} {vs : List Nat} {j : Nat} {σ : L2.St} {H : Hp} {Q : VK} (Pe : Hp → Nat → V → Prop) (hm : ∀ H1, Same H H1 → Mono H1 Pe) (hx : ∀ R : VK, (∀ a H1, Same H H1 → SqT K H1 a xs → R (.ref a) H1) → tl σ H R) (hz : xs.length ≤ 10000) (hw : ∀ x, wipe ((wipe σ vs).set j (some x)) vs = wipe σ vs)
    (he : ∀ (i : Nat) x H3, xs[i]? = some x → Same H H3 → ∀ Q' : VK, (∀ y H4, Pe H4 i y → Same H3 H4 → Q' y H4) → te ((wipe σ vs).set j (some x)) H3 Q')
    (hq : ∀ D ys H', Same H H' → H' D = some (.lst ys) → ys.length = xs.length → (∀ i y, ys[i]? = some y → Pe H' i y) → Q (.ref D) H') : tLc (iTup K tl) (gName j) tYes te vs σ H Q := by
  refine hx _ fun a H1 s1 hs => ⟨a, rfl, ⟨xs, hs⟩, fun D hD => ?_⟩
  refine lc_tup (xs := xs) (MadeH H1 Pe D) (.start hD) (fun i H' _ m => same_sqT m.same hs) (fun i x H' hi m => ⟨hw x, ?_⟩) (fun H' ⟨hn, sm, ys, h1, h2, h3⟩ => hq D ys H' (s1.trans sm) h1 h2 h3)
  have hl := (List.getElem?_eq_some_iff.mp hi).1
  unfold tYes
  dsimp only
  rw [if_pos rfl]
  exact m.turn (hm H1 s1) (by omega) (he i x H' hi (s1.trans m.same))
end Ur
namespace K05
open PySem L2 Ur Hull
abbrev sRight : Stmt := top 49
abbrev sLaw : Stmt := top 50
theorem SqT.keep {K : PySem.W.Frag} {D : Addr} {H1 H2 : Hp} {t : Addr} {xs : List V} {ys : List V} (hl : H1 D = some (.lst ys)) (keep : ∀ a u, a ≠ D → H1 a = some u → H2 a = some u) (h : SqT K H1 t xs) : SqT K H2 t xs := by
  rcases h with (h
        | ⟨o, h⟩) | h
  · exact Or.inl (Or.inl (keep t _ (fun z => by rw [z, hl] at h; cases h) h))
  · exact Or.inl (Or.inr ⟨o, keep t _ (fun z => by rw [z, hl] at h; cases h) h⟩)
  · exact Or.inr h
theorem Tp.keep {K : PySem.W.Frag} {D : Addr} {H1 H2 : Hp} {v : V} {p : List Int} {ys : List V} (hl : H1 D = some (.lst ys)) (keep : ∀ a u, a ≠ D → H1 a = some u → H2 a = some u) (h : Tp K H1 v p) : Tp K H2 v p := by
  obtain ⟨t, e, h⟩ := h
  exact ⟨t, e, SqT.keep hl keep h⟩
/-- a point over one -/
def One (K : PySem.W.Frag) (H : Hp) (z : V) : Prop := ∃ x y : Int, Tp K H z [x, y, 1] ∧ x.natAbs ≤ 100 ∧ y.natAbs ≤ 100
theorem One.same {K : PySem.W.Frag} {H H' : Hp} {z : V} (s : Same H H') (h : One K H z) : One K H' z := by
  obtain ⟨x, y, t, a, b⟩ := h
  exact ⟨x, y, t.same s, a, b⟩
theorem One.pt {K : PySem.W.Frag} {H : Hp} {z : V} (h : One K H z) : ∃ p, Tp K H z p ∧ Pt3 CB p ∧ w3 p ∣ 1 := by
  obtain ⟨x, y, t, a, b⟩ := h
  have cb : 100 ≤ CB := by unfold CB; exact Nat.le_trans (by decide : 100 ≤ 2 ^ 7) (pup (by decide))
  refine ⟨_, t, ⟨x, y, 1, rfl, by decide, by simp, Nat.le_trans a cb, Nat.le_trans b cb, Nat.le_trans (by decide : (1 : Int).natAbs ≤ 100) cb⟩, ?_⟩
  show (1 : Int).natAbs ∣ 1
  decide
theorem mono_one {K : PySem.W.Frag} {H : Hp} : Mono H fun H' _ y => One K H' y := by
  rintro D H1 H2 j y hD ⟨ys, hl⟩ s1 keep ⟨a, b, t, h1, h2⟩
  exact ⟨a, b, Tp.keep hl keep t, h1, h2⟩
/-- a row of points over one -/
def Ones (K : PySem.W.Frag) (H : Hp) (y : V) : Prop := ∃ (r : Addr) (zs : List V), y = .ref r ∧ SqT K H r zs ∧ zs.length ≤ 100 ∧ ∀ z ∈ zs, One K H z
theorem Ones.she {K : PySem.W.Frag} {H : Hp} {y : V} (h : Ones K H y) : ShE K H y := by
  obtain ⟨r, zs, rfl, q, l, a⟩ := h
  exact shp_pt q (fun z hz => (a z hz).pt) (by decide) (by unfold SB; exact Nat.one_lt_two_pow (by decide)) l
theorem mono_ones {K : PySem.W.Frag} {H : Hp} : Mono H fun H' _ y => Ones K H' y := by
  rintro D H1 H2 j y hD ⟨ys, hl⟩ s1 keep ⟨r, zs, e, q, l, a⟩
  exact ⟨r, zs, e, SqT.keep hl keep q, l, fun z hz => mono_one D H1 H2 j z hD ⟨ys, hl⟩ s1 keep (a z hz)⟩
open Classical in
theorem choose_bc {K : PySem.W.Frag} {H : Hp} {zs : List V} (h : ∀ z ∈ zs, ShE K H z) {z0 : V} (e0 : zs[0]? = some z0) (h0 : Shp K H z0 true true) : ∃ bs cs : Nat → Bool, bs 0 = true ∧ cs 0 = true ∧ ∀ i z, zs[i]? = some z → Shp K H z (bs i) (cs i) := by
  have h' : ∀ i, ∃ bc : Bool × Bool, (i = 0 → bc = (true, true)) ∧ ∀ z, zs[i]? = some z → Shp K H z bc.1 bc.2 := fun i => by
    by_cases c : i = 0
    · subst c
      exact ⟨(true, true), fun _ => rfl, fun z hz => by rw [e0] at hz; cases hz; exact h0⟩
    · cases e : zs[i]? with
      | none => exact ⟨(true, true), fun z => absurd z c, fun z hz => by cases hz⟩
      | some y =>
        obtain ⟨b, c', hh⟩ := h y (List.mem_of_getElem? e)
        exact ⟨(b, c'), fun z => absurd z c, fun z hz => by cases hz; exact hh⟩
  refine ⟨fun i => (Classical.choose (h' i)).1, fun i => (Classical.choose (h' i)).2, ?_, ?_, fun i z hz => (Classical.choose_spec (h' i)).2 z hz⟩
  · show (Classical.choose (h' 0)).1 = true
    rw [(Classical.choose_spec (h' 0)).1 rfl]
  · show (Classical.choose (h' 0)).2 = true
    rw [(Classical.choose_spec (h' 0)).1 rfl]
theorem shp_true {K : PySem.W.Frag} {H : Hp} {v : V} {b c : Bool} (h : Shp K H v b c) (hb : b = true) : ∃ (a : Addr) (xs : List V), v = .ref a ∧ SqT K H a xs ∧ c = (decide (3 ≤ xs.length) && decide (xs.length ≤ 8)) := by
  cases h with
  | no _ _ => cases hb
  | emp _ => cases hb
  | odd _ _ _ _ _ => cases hb
  | @pts a xs pts S h1 h2 _ _ _ => exact ⟨a, xs, rfl, h1, by rw [hb, Bool.and_true, h2.len]⟩
theorem shp_false {K : PySem.W.Frag} {H : Hp} {v : V} {b c : Bool} (h : Shp K H v b c) (hb : b = false) : c = false := by
  cases h with
  | no _ _ => rfl
  | emp _ => rfl
  | odd _ _ _ _ _ => rfl
  | pts _ _ _ _ _ => rw [hb, Bool.and_false, Bool.and_false]
def spRight : Sp := fun vs H Q _ => ∃ u : Addr, vs = [.ref u] ∧ H u = some (UrnO u) ∧ ∀ H' : Hp, Same H H' → Q (.bl true) H'
section
variable {P' : Program} {w : World} {K :
      PySem.W.Frag} {mg : Str → Option Value} {base : Heap}
abbrev n_law_right : List Str := ["_law_urn_here", "_law_plate_here", "_law_rows", "_law_wide", "_law_some", "_law_due", "_law_lap", "_law_many", "_law_thing", "_law_k", "_law_step"]
abbrev p_law_right : List Str := ["_law_urn_here"]
theorem sc_law_right : FnScope n_law_right p_law_right (defScope sRight) := ⟨rfl, rfl, rfl, by decide +kernel, rfl, by decide +kernel, by decide +kernel⟩
set_option
      maxHeartbeats 4000000 in
theorem ok_right {f : Addr} {fd : FuncData} (F : Fun K "_law_right" "_law_right" sRight f fd) (T : Bl mg) (H_law_plate : Has P' w K mg base "_law_plate" p_lurn 8 (spPlate K)) (H_law_pull : Has P' w K mg base "_law_pull" ["_law_urn_here", "_law_many"] 1 spPull) (H_law_num : Has P' w K mg base "_law_num" p_law_num 2 spNum) (H_law_spot : Has P' w K mg base "_law_spot" p_lspot 3 (spN3 K)) (H_law_bent : Has P' w K mg base "_law_bent" p_bent 7 (spBent K)) (H_law_is_shape : Has P' w K mg base "_law_is_shape" p_shape 8 (spPlA K))
    (H_is_polygon : Has P' w K mg base "is_polygon" n_value 5 (spPlA K)) (HR_is_polygon : HasR P' w K mg base "is_polygon" n_value 5 (spPlA K)) (H_is_section : Has P' w K mg base "is_section" n_value 6 (spScA K)) (HR_is_section : HasR P' w K mg base "is_section" n_value 6 (spScA K)) : FnG P' w K mg base CX0 9 f fd p_law_right spRight := by
  refine okG F sc_law_right (fun vs H Q E h => ?_) (fun cdv A outer s H vs Q E hg hr h => ?_)
  · obtain ⟨u, rfl, _⟩ := h
    rfl
  · obtain ⟨u, rfl, hu0, q⟩ := h
    have hu : (A.deeper (PyProof.Rows.envOfC "_law_right" (defScope sRight) s.heap.objs.size f cdv)).units + 64 < cLine := hr.units
    refine ⟨_, (pss_mid (ps_set (i := 1) sc_law_right.nd rfl (Or.inl rfl) (pe_has H_law_plate (hr.mono (by decide)) (by rfl) (pa_cons (pv 0) pa_nil)))
      (pss_mid (ps_setLc (i := 2) (own := [("_law_lap", 6)]) (g := gName 6) (tt := tYes) rfl sc_law_right.nd rfl rfl (sw_true rfl rfl rfl (by decide +kernel)) (pi_range1 (by rfl) T.range (pa_cons pe_int pa_nil)) (blkOk_by (N := n_law_right) (sc := defScope sRight) (by decide +kernel)) (fun _ _ _ _ _ => pg_name (i := 6) sc_law_right.nd rfl (Or.inl rfl)) (fun _ _ _ _ _ => pts_nil) (fun _ _ _ _ _ => (pe_callTy (call_tuple_ofK (K := K) rfl) (by rfl) T.tuple PyProof.Rows.boot_tuple (pa_cons (pe_lc (own := [("_law_step", 10)]) (g := gName 10) (tt := tYes) rfl sc_law_right.nd (pi_range1 (by rfl) T.range (pa_cons (pe_has H_law_pull (hr.mono (by decide)) (by rfl) (pa_cons (pv 0) (pa_cons pe_int pa_nil))) pa_nil)) (blkOk_by (N := n_law_right) (by rfl)) (fun _ _ _ _ _ => pg_name (i := 10) sc_law_right.nd rfl (Or.inl rfl)) (fun _ _ _ _ _ => pts_nil) (fun _ _ _ _ _ => (pe_has H_law_spot (hr.mono (by decide)) (by rfl) (pa_cons (pe_has H_law_num (hr.mono (by decide)) (by rfl) (pa_cons (pv 0) (pa_cons pe_int pa_nil))) (pa_cons (pe_has H_law_num (hr.mono (by decide)) (by rfl) (pa_cons (pv 0) (pa_cons pe_int pa_nil))) (pa_cons pe_int pa_nil)))))) pa_nil))))
      (pss_mid (ps_setLc (i := 3) (own := [("_law_many", 7)]) (g := gName 7) (tt := tYes) rfl sc_law_right.nd rfl rfl (sw_true rfl rfl rfl (by decide +kernel)) (pi_tup (pe_tup (pa_cons pe_int (pa_cons pe_int (pa_cons pe_int pa_nil))))) (blkOk_by (N := n_law_right) (sc := defScope sRight) (by decide +kernel)) (fun _ _ _ _ _ => pg_name (i := 7) sc_law_right.nd rfl (Or.inl rfl)) (fun _ _ _ _ _ => pts_nil) (fun _ _ _ _ _ => (pe_callTy (call_tuple_ofK (K := K) rfl) (by rfl) T.tuple PyProof.Rows.boot_tuple (pa_cons (pe_lc (own := [("_law_k", 9)]) (g := gName 9) (tt := tYes) rfl sc_law_right.nd (pi_range2 (by rfl) T.range (pa_cons (pe_un un_neg pe_int) (pa_cons (pv 7) pa_nil))) (blkOk_by (N := n_law_right) (by rfl)) (fun _ _ _ _ _ => pg_name (i := 9) sc_law_right.nd rfl (Or.inl rfl)) (fun _ _ _ _ _ => pts_nil) (fun _ _ _ _ _ => (pe_tup (pa_cons (pv 9) (pa_cons (pe_op op_mulW (pv 9) (pv 9)) (pa_cons pe_int pa_nil)))))) pa_nil))))
      (pss_mid (ps_set (i := 4) sc_law_right.nd rfl (Or.inr rfl) (pe_op op_cat (pe_op op_cat (pe_op op_cat (pe_op op_cat (pe_lst (pa_cons (pv 1) pa_nil)) (pe_has H_law_bent (hr.mono (by decide)) (by rfl) (pa_cons (pv 0) (pa_cons (pv 1) pa_nil)))) (pv 2)) (pv 3)) (pe_lst (pa_cons (pe_tup pa_nil) (pa_cons pe_non (pa_cons pe_bl (pa_cons pe_str (pa_cons pe_dnewK (pa_cons (pe_tup (pa_cons pe_int (pa_cons pe_int (pa_cons pe_int pa_nil)))) (pa_cons (pe_tup (pa_cons (pe_tup (pa_cons pe_int (pa_cons pe_int (pa_cons pe_int pa_nil)))) (pa_cons pe_non pa_nil))) (pa_cons pe_int pa_nil)))))))))))
      (pss_mid (ps_set (i := 5) sc_law_right.nd rfl (Or.inr rfl) (pe_lc (own := [("_law_thing", 8)]) (g := gName 8) (tt := tYes) rfl sc_law_right.nd (pi_list (pv 4)) (blkOk_by (N := n_law_right) (sc := defScope sRight) (by decide +kernel)) (fun _ _ _ _ _ => pg_name (i := 8) sc_law_right.nd rfl (Or.inl rfl)) (fun _ _ _ _ _ => pts_nil) (fun _ _ _ _ _ => (pe_has H_law_is_shape (hr.mono (by decide)) (by rfl) (pa_cons (pv 8) pa_nil)))))
      (pss_mid (ps_if (PW.pt (pw_or (pt_cmpR op_ne (pe_callB (call_repr hg hu) (by rfl) T.repr PyProof.Rows.boot_repr (pa_cons (pe_lc (own := [("_law_thing", 8)]) (g := gName 8) (tt := tYes) rfl sc_law_right.nd (pi_list (pv 4)) (blkOk_by (N := n_law_right) (sc := defScope sRight) (by decide +kernel)) (fun _ _ _ _ _ => pg_name (i := 8) sc_law_right.nd rfl (Or.inl rfl)) (fun _ _ _ _ _ => pts_nil) (fun _ _ _ _ _ => (pe_has H_is_polygon (hr.mono (by decide)) (by rfl) (pa_cons (pv 8) pa_nil)))) pa_nil)) (pe_callB (call_repr hg hu) (by rfl) T.repr PyProof.Rows.boot_repr (pa_cons (pv 5) pa_nil)) (nomark _)) (pw_or1 (pt_cmpR op_ne (pe_callB (call_repr hg hu) (by rfl) T.repr PyProof.Rows.boot_repr (pa_cons (pe_lc (own := [("_law_thing", 8)]) (g := gName 8) (tt := tYes) rfl sc_law_right.nd (pi_list (pv 4)) (blkOk_by (N := n_law_right) (sc := defScope sRight) (by decide +kernel)) (fun _ _ _ _ _ => pg_name (i := 8) sc_law_right.nd rfl (Or.inl rfl)) (fun _ _ _ _ _ => pts_nil) (fun _ _ _ _ _ => (pe_hasR0 HR_is_polygon (hr.mono (by decide)) (by rfl) (pk_cons (pv 8) pk_nil)))) pa_nil)) (pe_callB (call_repr hg hu) (by rfl) T.repr PyProof.Rows.boot_repr (pa_cons (pv 5) pa_nil)) (nomark _))))) (pss_one (ps_ret pe_bl)) pss_nil)
      (pss_mid (ps_set (i := 5) sc_law_right.nd rfl (Or.inr rfl) (pe_lc (own := [("_law_k", 9)]) (g := gName 9) (tt := tYes) rfl sc_law_right.nd (pi_range1 (by rfl) T.range (pa_cons (pe_callB (r := Ur.rLen K) Ur.len_seq (by rfl) T.len PySem.boot_len (pa_cons (pv 4) pa_nil)) pa_nil)) (blkOk_by (N := n_law_right) (sc := defScope sRight) (by decide +kernel)) (fun _ _ _ _ _ => pg_name (i := 9) sc_law_right.nd rfl (Or.inl rfl)) (fun _ _ _ _ _ => pts_nil) (fun _ _ _ _ _ => (pe_and (pe_ix (r := rIxL K) ix_list (pv 5) (pv 9) (fun _ _ => rfl)) (pe_one (pe_chain op_lt op_lt pe_int (pe_callB (r := Ur.rLen K) Ur.len_seq (by rfl) T.len PySem.boot_len (pa_cons (pe_ix (r := rIxL K) ix_list (pv 4) (pv 9) (fun _ _ => rfl)) pa_nil)) pe_int))))))
      (pss_one (ps_ret (pe_and (pe_ix (r := rIxL K) ix_list (pv 5) pe_int (fun _ _ => rfl)) (pe_one (pe_chain op_eq op_eq (pe_callB (call_repr hg hu) (by rfl) T.repr PyProof.Rows.boot_repr (pa_cons (pe_lc (own := [("_law_thing", 8)]) (g := gName 8) (tt := tYes) rfl sc_law_right.nd (pi_list (pv 4)) (blkOk_by (N := n_law_right) (sc := defScope sRight) (by decide +kernel)) (fun _ _ _ _ _ => pg_name (i := 8) sc_law_right.nd rfl (Or.inl rfl)) (fun _ _ _ _ _ => pts_nil) (fun _ _ _ _ _ => (pe_has H_is_section (hr.mono (by decide)) (by rfl) (pa_cons (pv 8) pa_nil)))) pa_nil)) (pe_callB (call_repr hg hu) (by rfl) T.repr PyProof.Rows.boot_repr (pa_cons (pv 5) pa_nil)) (pe_callB (call_repr hg hu) (by rfl) T.repr PyProof.Rows.boot_repr (pa_cons (pe_lc (own := [("_law_thing", 8)]) (g := gName 8) (tt := tYes) rfl sc_law_right.nd (pi_list (pv 4)) (blkOk_by (N := n_law_right) (sc := defScope sRight) (by decide +kernel)) (fun _ _ _ _ _ => pg_name (i := 8) sc_law_right.nd rfl (Or.inl rfl)) (fun _ _ _ _ _ => pts_nil) (fun _ _ _ _ _ => (pe_hasR0 HR_is_section (hr.mono (by decide)) (by rfl) (pk_cons (pv 8) pk_nil)))) pa_nil)))))))))))))), ?_⟩
    refine ⟨fun σ' H' => ∃ (vp : V) (xs : List V) (pts : List (List Int)) (S : Nat), σ' = [some (.ref u), some vp, none, none, none, none, none, none, none, none, none] ∧ Same H H' ∧ SecV K H' vp xs pts S ∧ Sml pts S ∧ Tny pts S, ⟨_, rfl, u, rfl, hu0, fun vp xs pts S H1 s1 hV hM hT => ⟨vp, xs, pts, S, rfl, s1, hV, hM, hT⟩⟩, ?_⟩
    rintro σ1 H1 ⟨vp, xs, pts, S, rfl, s1, hV1, hM, hT⟩
    have hs := hV1.sec
    obtain ⟨tp, rfl, hS1⟩ := hV1.ref
    obtain ⟨hl, h3, h8⟩ := sec_lens hV1
    -- drawn rows
    refine ⟨fun σ' H' => ∃ (D : Addr) (ys : List V), σ' = [some (.ref u), some (.ref tp), some (.ref D), none, none, none, none, none, none, none, none] ∧ Same H1 H' ∧ H' D = some (.lst ys) ∧ ys.length = 3 ∧ ∀ y ∈ ys, Ones K H' y, ?_, ?_⟩
    · refine lcRh (j1 := 6) (fun n => n = 3) (fun H' _ y => Ones K H' y) (fun R r => r 3 H1 rfl (Same.refl _)) (fun n e => by subst e; decide) (fun _ _ => mono_ones) (fun _ => rfl) (fun n i H3 hn hi s3 Q' q' => ?_) (fun n D ys H3 hn hD s3 hy e1 e2 => ?_)
      · unfold tCB tCons tNil
        dsimp only
        refine lcRh (j1 := 10) (fun n => 0 ≤ n ∧ n ≤ 9) (fun H' _ y => One K H' y) (fun R rr => ⟨_, rfl, u, 10, rfl, (s1.trans s3) _ _ hu0, by decide, by decide, fun r Ha r0 r1 sa => rr r Ha ⟨r0, by omega⟩ sa⟩) (fun n e => by omega) (fun _ _ => mono_one) (fun _ => rfl) (fun n j Hb hn' hj sb Q'' q'' => ?_) (fun n Dj zs Hc hn' hDj sc hz e1 e2 => ?_)
        · have z3 := s1.trans (s3.trans sb)
          refine ⟨_, rfl, u, 3, rfl, z3 _ _ hu0, by decide, by decide, fun a Hc a0 a1 sc => ?_⟩
          refine ⟨_, rfl, u, 3, rfl, (z3.trans sc) _ _ hu0, by decide, by decide, fun b Hd b0 b1 sd => ?_⟩
          have w9 : ∀ {n : Nat}, n ≤ 10 → n ≤ W2 := fun h => Nat.le_trans h (Nat.le_trans (by decide : 10 ≤ 2 ^ 4) (by unfold W2; exact pup (by decide)))
          refine ⟨a, b, 1, rfl, by decide, w9 (by omega), w9 (by omega), w9 (by decide), fun p He se tp' => ?_⟩
          have et : thin [a, b, 1] = [a, b, 1] := thin_one (by rw [gAll_3]; exact Nat.gcd_one_right _)
          rw [et] at tp'
          exact q'' p He ⟨a, b, tp', by omega, by omega⟩ (sc.trans (sd.trans se))
        · refine ⟨Dj, zs, rfl, Or.inl ⟨SqL.of hz, fun t ht => ?_⟩⟩
          have nt := same_new (p := t) (o := HO.tup zs) ht
          refine q' _ _ ⟨t, zs, rfl, SqT.of upd_same, by omega, fun z hz' => ?_⟩ (sc.trans nt)
          obtain ⟨i, hi, ei⟩ := List.getElem_of_mem hz'
          exact (e2 i z (by rw [List.getElem?_eq_getElem hi, ei])).same nt
      · refine ⟨D, ys, rfl, s3, hy, by omega, fun y hy' => ?_⟩
        obtain ⟨i, hi, ei⟩ := List.getElem_of_mem hy'
        exact e2 i y (by rw [List.getElem?_eq_getElem hi, ei])
    rintro σ2 H2 ⟨D2, y2, rfl, s2, hD2, l2', e2⟩
    have z2 := s1.trans s2
    -- rows of a bow
    refine ⟨fun σ' H' => ∃ (D : Addr) (ys : List V), σ' = [some (.ref u), some (.ref tp), some (.ref D2), some (.ref D), none, none, none, none, none, none, none] ∧ Same H2 H' ∧ H' D = some (.lst ys) ∧ ys.length = 3 ∧ ∀ y ∈ ys, Ones K H' y, ?_, ?_⟩
    · refine lcThx (K := K) (xs := [V.int 4, .int 5, .int 6]) (fun H' _ y => Ones K H' y) (fun _ _ => mono_ones) (fun R r => ⟨by show 3 ≤ sizeLine; decide, fun p hp => r p _ (same_new hp) (SqT.of upd_same)⟩) (by decide) (fun _ => rfl) (fun i x H3 hi s3 Q' q' => ?_) (fun D ys H3 s3 hy e1 e2 => ?_)
      · obtain ⟨m, rfl, m0, m6⟩ : ∃ m : Int, x = .int m ∧ 0 ≤ m ∧ m ≤ 6 := by
          have hx := List.mem_of_getElem? hi
          simp only [List.mem_cons,
                List.not_mem_nil, or_false] at hx
          rcases hx with rfl | rfl | rfl <;> exact ⟨_, rfl, by decide, by decide⟩
        unfold tCB tCons tNil
        dsimp only
        refine lcRgH (lo := -4) (hi := m) (fun H' _ y => One K H' y) mono_one (fun R r => ⟨_, rfl, _, rfl, r⟩) (by decide) (by omega) (fun _ => rfl) (fun j Hb hj sb Q'' q'' => ?_) (fun Dj zs Hc hDj sc hz e1 e2 => ?_)
        · have b9 : (-4 + (j : Int)).natAbs < 2 ^ 9000 := Nat.lt_of_lt_of_le (by omega : (-4 + (j : Int)).natAbs < 2 ^ 4) (Nat.pow_le_pow_right (by decide) (by decide))
          refine ⟨_, rfl, _, rfl, _, rfl, _, _, rfl, rfl, m2 b9 b9, by show 3 ≤ sizeLine; decide, fun p hp => ?_⟩
          refine q'' _ _ ⟨-4 + (j : Int), (-4 + (j : Int)) * (-4 + (j : Int)), ⟨p, rfl, SqT.of upd_same⟩, by omega, ?_⟩ (same_new hp)
          rw [Int.natAbs_mul]
          exact Nat.le_trans (Nat.mul_le_mul (by omega : _ ≤ 6) (by omega : _ ≤ 6)) (by decide)
        · refine ⟨Dj, zs, rfl, Or.inl ⟨SqL.of hz, fun t ht => ?_⟩⟩
          have nt := same_new (p := t) (o := HO.tup zs) ht
          refine q' _ _ ⟨t, zs, rfl, SqT.of upd_same, by omega, fun z hz' => ?_⟩ (sc.trans nt)
          obtain ⟨i, hi, ei⟩ := List.getElem_of_mem hz'
          exact (e2 i z (by rw [List.getElem?_eq_getElem hi, ei])).same nt
      · refine ⟨D, ys, rfl, s3, hy, e1, fun y hy' => ?_⟩
        obtain ⟨i, hi, ei⟩ := List.getElem_of_mem hy'
        exact e2 i y (by rw [List.getElem?_eq_getElem hi, ei])
    rintro σ3 H3 ⟨D3, y3, rfl, s3, hD3, l3, e3⟩
    have z3 := z2.trans s3
    have hS3 := same_sqT (s2.trans s3) hS1
    -- all of them
    refine ⟨fun σ' H' => ∃ (D : Addr) (zs : List V), σ' = [some (.ref u), some (.ref tp), some (.ref D2), some (.ref D3), some (.ref D), none, none, none, none, none, none] ∧ Same H3 H' ∧ H' D = some (.lst zs) ∧ zs.length = 32 ∧ zs[0]? = some (.ref tp) ∧ ∀ z ∈ zs, ShE K H' z, ?_, ?_⟩
    · refine ⟨_, rfl, by show 1 ≤ sizeLine; decide, fun L1 hL1 => ?_⟩
      have n1 := same_new (p := L1) (o := HO.lst [V.ref tp]) hL1
      have q1 : (upd H3 L1 (.lst [V.ref tp])) L1 = some (.lst [V.ref tp]) := upd_same
      generalize upd H3 L1 (.lst [V.ref tp]) = Ha at n1 q1 ⊢
      refine ⟨_, rfl, _, rfl, u, .ref tp, xs, pts, S, rfl, (z3.trans n1) _ _ hu0, hV1.same ((s2.trans s3).trans n1), hT, hM, fun L2 yb Hb sb hb lb eb => ?_⟩
      have a2 := n1.trans sb
      refine ⟨L1, L2, [V.ref tp], yb, rfl, rfl, sb _ _ q1, hb, by rw [lb]; show 1 + 17 ≤ sizeLine; decide, fun L3 hL3 => ?_⟩
      have n3 := same_new (p := L3) (o := HO.lst ([V.ref tp] ++ yb)) hL3
      have q3 : (upd Hb L3 (.lst ([V.ref tp] ++ yb))) L3 = some (.lst ([V.ref tp] ++ yb)) := upd_same
      generalize upd Hb L3 (.lst ([V.ref tp] ++ yb)) = Hc at n3 q3 ⊢
      have a3 := a2.trans n3
      refine ⟨_, rfl, L3, D2, _, y2, rfl, rfl, q3, (s3.trans a3) _ _ hD2, by rw [List.length_append, lb, l2']; show 1 + 17 + 3 ≤ sizeLine; decide, fun L4 hL4 => ?_⟩
      have n4 := same_new (p := L4) (o := HO.lst (([V.ref tp] ++ yb) ++ y2)) hL4
      have q4 : (upd Hc L4 (.lst (([V.ref tp] ++ yb) ++ y2))) L4 = some (.lst (([V.ref tp] ++ yb) ++ y2)) := upd_same
      generalize upd Hc L4 (.lst (([V.ref tp] ++ yb) ++ y2)) = Hd at n4 q4 ⊢
      have a4 := a3.trans n4
      refine ⟨_, rfl, L4, D3, _, y3, rfl, rfl, q4, a4 _ _ hD3, by rw [List.length_append, List.length_append, lb, l2', l3]; show 1 + 17 + 3 + 3 ≤ sizeLine; decide, fun L5 hL5 => ?_⟩
      have n5 := same_new (p := L5) (o := HO.lst ((([V.ref tp] ++ yb) ++ y2) ++ y3)) hL5
      have q5 : (upd Hd L5 (.lst ((([V.ref tp] ++ yb) ++ y2) ++ y3))) L5 = some (.lst ((([V.ref tp] ++ yb) ++ y2) ++ y3)) := upd_same
      generalize upd Hd L5 (.lst ((([V.ref tp] ++ yb) ++ y2) ++ y3)) = He at n5 q5 ⊢
      have a5 := a4.trans n5
      refine ⟨by show 0 ≤ sizeLine; decide, fun p1 hp1 => ?_⟩
      have m1 := same_new (p := p1) (o := HO.tup []) hp1
      have r1 : SqT K (upd He p1 (.tup [])) p1 [] := SqT.of upd_same
      generalize upd He p1 (.tup []) = Hf at m1 r1 ⊢
      refine fun p2 hp2 => ?_
      have m2' := same_new (p := p2) (o := HO.dK []) hp2
      have r2 : (upd Hf p2 (.dK [])) p2 = some (.dK []) := upd_same
      generalize upd Hf p2 (.dK []) = Hg at m2' r2 ⊢
      refine ⟨by show 3 ≤ sizeLine; decide, fun p3 hp3 => ?_⟩
      have m3 := same_new (p := p3) (o := HO.tup [V.int 1, .int 2, .int 3]) hp3
      have r3 : SqT K (upd Hg p3 (.tup [V.int 1, .int 2, .int 3])) p3 [V.int 1, .int 2, .int 3] := SqT.of upd_same
      generalize upd Hg p3 (.tup [V.int 1, .int 2, .int 3]) = Hh at m3 r3 ⊢
      refine ⟨by show 3 ≤ sizeLine; decide, fun p4 hp4 => ?_⟩
      have m4 := same_new (p := p4) (o := HO.tup [V.int 0, .int 0, .int 1]) hp4
      have r4 : SqT K (upd Hh p4 (.tup [V.int 0, .int 0, .int 1])) p4 ([0, 0, 1].map V.int) := SqT.of upd_same
      generalize upd Hh p4 (.tup [V.int 0, .int 0, .int 1]) = Hi at m4 r4 ⊢
      refine ⟨by show 2 ≤ sizeLine; decide, fun p5 hp5 => ?_⟩
      have m5 := same_new (p := p5) (o := HO.tup [V.ref p4, .non]) hp5
      have r5 : SqT K (upd Hi p5 (.tup [V.ref p4, .non])) p5 [V.ref p4, .non] := SqT.of upd_same
      generalize upd Hi p5 (.tup [V.ref p4, .non]) = Hj at m5 r5 ⊢
      refine ⟨by show 8 ≤ sizeLine; decide, fun L6 hL6 => ?_⟩
      have m6 := same_new (p := L6) (o := HO.lst [V.ref p1, .non, .bl true, .str (Str.ofString "polygon"), .ref p2, .ref p3, .ref p5, .int 5]) hL6
      have r6 : (upd Hj L6 (.lst [V.ref p1, .non, .bl true, .str (Str.ofString "polygon"), .ref p2, .ref p3, .ref p5, .int 5])) L6 = some (.lst [V.ref p1, .non, .bl true, .str (Str.ofString "polygon"), .ref p2, .ref p3, .ref p5, .int 5]) := upd_same
      generalize upd Hj L6 (.lst [V.ref p1, .non, .bl true, .str (Str.ofString "polygon"), .ref p2, .ref p3, .ref p5, .int 5]) = Hk at m6 r6 ⊢
      have c5 := m1.trans (m2'.trans (m3.trans (m4.trans (m5.trans m6))))
      refine ⟨L5, L6, _, _, rfl, rfl, c5 _ _ q5, r6, by rw [List.length_append, List.length_append, List.length_append, lb, l2', l3]; show 1 + 17 + 3 + 3 + 8 ≤ sizeLine; decide, fun L7 hL7 => ?_⟩
      have m7 := same_new (p := L7) (o := HO.lst (((([V.ref tp] ++ yb) ++ y2) ++ y3) ++ [V.ref p1, .non, .bl true, .str (Str.ofString "polygon"), .ref p2, .ref p3, .ref p5, .int 5])) hL7
      refine ⟨L7, _, rfl, a5.trans (c5.trans m7), upd_same, by rw [List.length_append, List.length_append, List.length_append, List.length_append, lb, l2', l3]; rfl, rfl, fun z hz => ?_⟩
      generalize upd Hk L7 (.lst (((([V.ref tp] ++ yb) ++ y2) ++ y3) ++ [V.ref p1, .non, .bl true, .str (Str.ofString "polygon"), .ref p2, .ref p3, .ref p5, .int 5])) = Hl at m7 ⊢
      have d6 := m6.trans m7
      have d5 := m5.trans d6
      have d4 := m4.trans d5
      have d3 := m3.trans d4
      have d2 := m2'.trans d3
      have d1 := m1.trans d2
      have aL := a5.trans d1
      rcases List.mem_append.mp
            hz with hz | hz
      · rcases List.mem_append.mp hz with hz | hz
        · rcases List.mem_append.mp hz with hz | hz
          · rcases List.mem_append.mp hz with hz | hz
            · rw [List.mem_singleton.mp
                  hz]
              exact ⟨_, _, .pts (same_sqT aL hS3) (hV1.al.mono fun _ _ k => k.same ((s2.trans s3).trans aL)) hs.pol.scb (by omega) (by omega)⟩
            · exact (eb z hz).same (n3.trans (n4.trans (n5.trans d1)))
          · obtain ⟨r, zs, rfl, h1, h2, h4⟩ := e2 z hz
            have sL := s3.trans aL
            exact Ones.she ⟨r, zs, rfl, same_sqT sL h1, h2, fun z hz => (h4 z hz).same sL⟩
        · obtain ⟨r, zs, rfl, h1, h2, h4⟩ := e3 z hz
          exact Ones.she ⟨r, zs, rfl, same_sqT aL h1, h2, fun z hz => (h4 z hz).same aL⟩
      · simp only [List.mem_cons, List.not_mem_nil, or_false] at hz
        rcases hz with rfl | rfl | rfl | rfl | rfl | rfl | rfl | rfl
        · exact ⟨_, _, .emp (same_sqT d2 r1)⟩
        · exact ⟨_, _, .no (k := .non) (.base .non) (by decide)⟩
        · exact ⟨_, _, .no (k := .bool) (.base (.bl true)) (by decide)⟩
        · exact ⟨_, _, .no (k := .str) (.base (.str _)) (by decide)⟩
        · exact ⟨_, _, .no (k := .dic) (.base (.dK (d3 _ _ r2))) (by decide)⟩
        · refine shp_odd (same_sqT d4 r3) (by show 3 ≤ 1000; decide) (fun z hz => ?_) List.mem_cons_self (spi_int 1)
          simp only [List.mem_cons, List.not_mem_nil, or_false] at hz
          rcases hz with rfl | rfl | rfl <;> exact ⟨_, spi_int _⟩
        · refine shp_odd (same_sqT d6 r5) (by show 2 ≤ 1000; decide) (fun z hz => ?_) (List.mem_cons_of_mem _ List.mem_cons_self) spi_non
          simp only [List.mem_cons, List.not_mem_nil, or_false] at hz
          rcases hz with rfl | rfl
          · refine ⟨_, spi_ints (same_sqT d5 r4) (by simp) fun n hn => ?_⟩
            simp only [List.mem_cons, List.not_mem_nil, or_false] at hn
            rcases hn with rfl | rfl | rfl <;> exact Nat.lt_of_lt_of_le (by decide : _ < 2 ^ 4) (Nat.pow_le_pow_right (by decide) (by decide))
          · exact ⟨_, spi_non⟩
        · exact ⟨_, _, .no (k := .int) (.base (.int 5)) (by decide)⟩
    rintro σ4 H4 ⟨D4, zs, rfl, s4, hD4, l4, e40, e4⟩
    have z4 := z3.trans s4
    have h00 : Shp K H4 (.ref tp) true true := by
      have := Shp.pts (same_sqT ((s2.trans s3).trans s4) hS1) (hV1.al.mono fun _ _ k => k.same ((s2.trans s3).trans s4)) hs.pol.scb (by omega) (by omega)
      rw [hs.pol.self, decide_eq_true rfl, decide_eq_true h3, decide_eq_true h8] at this
      exact this
    obtain ⟨bs, cs, b0, c0, hsh⟩ := choose_bc e4 e40 h00
    refine ⟨fun σ' H' => ∃ (D5 : Addr), σ' = [some (.ref u), some (.ref tp), some (.ref D2), some (.ref D3), some (.ref D4), some (.ref D5), none, none, none, none, none] ∧ Same H4 H' ∧ H' D5 = some (.lst (((List.range zs.length).map bs).map V.bl)), ?_, ?_⟩
    · unfold tAsg
      refine lcB (K := K) (a := D4) (xs := zs) bs (fun R r => ⟨_, rfl, r⟩) hD4 (by omega) (fun _ => rfl) (fun i z Ha hi sa Q' q' => ?_) (fun D5 Ha sD hD5 => ?_)
      · exact ⟨_, rfl, z, bs i, cs i, rfl, (hsh i z hi).same sa, fun Hb sb => q' Hb sb⟩
      · exact ⟨D5, rfl, sD, hD5⟩
    rintro σ5 H5 ⟨D5, rfl, s5, hD5⟩
    have hD45 := s5 _ _ hD4
    have hsh5 : ∀ i z, zs[i]? = some z → Shp K H5 z (bs i) (cs i) := fun i z hi => (hsh i z hi).same s5
    obtain ⟨i1, i2, i3, i4⟩ := bools_facts (bs := (List.range zs.length).map bs) (by rw [List.length_map, List.length_range]; omega)
    obtain ⟨j1, j2, j3, j4⟩ := bools_facts (bs := (List.range zs.length).map cs) (by rw [List.length_map, List.length_range]; omega)
    refine ⟨fun σ' H' => σ' = [some (.ref u), some (.ref tp), some (.ref D2), some (.ref D3), some (.ref D4), some (.ref D5), none, none, none, none, none] ∧ Same H5 H', ?_, ?_⟩
    · unfold tIfS tOr tTest tOp tCB tCons tNil
      dsimp only
      refine lcB (K := K) (a := D4) (xs := zs) bs (fun R r => ⟨_, rfl, r⟩) hD45 (by omega) (fun _ => rfl) (fun i z Ha hi sa Q' q' => ?_) (fun D6 Ha sD hD6 => ?_)
      · exact ⟨_, rfl, z, bs i, cs i, rfl, (hsh5 i z hi).same sa, fun Hb sb => q' Hb sb⟩
      refine ⟨D6, _, rfl, dp_bools hD6, i1, i2, i3, i4, ?_⟩
      refine ⟨_, rfl, D5, _, rfl, dp_bools (sD _ _ hD5), i1, i2, i3, i4, rfl, ?_⟩
      refine ne_same (iteF ?_)
      refine lcB (K := K) (a := D4) (xs := zs) bs (fun R r => ⟨_, rfl, r⟩) (sD _ _ hD45) (by omega) (fun _ => rfl) (fun i z Hb hi sb Q' q' => ?_) (fun D7 Hb sD2 hD7 => ?_)
      · exact ⟨_, rfl, z, bs i, cs i, rfl, (hsh5 i z hi).same (sD.trans sb), fun Hc sc => q' Hc sc⟩
      have sDD := sD.trans sD2
      refine ⟨D7, _, rfl, dp_bools hD7, i1, i2, i3, i4, ?_⟩
      refine ⟨_, rfl, D5, _, rfl, dp_bools (sDD _ _ hD5), i1, i2, i3, i4, rfl, ?_⟩
      refine ne_same (iteF ?_)
      exact ⟨rfl, sDD⟩
    rintro σ6 H6 ⟨rfl, s6⟩
    have hD46 := s6 _ _ hD45
    have hD56 := s6 _ _ hD5
    have hsh6 : ∀ i z, zs[i]? = some z → Shp K H6 z (bs i) (cs i) := fun i z hi => (hsh5 i z hi).same s6
    refine ⟨fun σ' H' => ∃ (D7 : Addr), σ' = [some (.ref u), some (.ref tp), some (.ref D2), some (.ref D3), some (.ref D4), some (.ref D7), none, none, none, none, none] ∧ Same H6 H' ∧ H' D7 = some (.lst (((List.range zs.length).map cs).map V.bl)), ?_, ?_⟩
    · unfold tAsg
      refine lcRh (j1 := 9) (fun n => n = ((zs.length : Nat) : Int)) (fun _ i y => y = .bl (cs i)) (fun R r => ⟨_, rfl, D4, zs, rfl, Or.inl (SqL.of hD46), r _ H6 rfl (Same.refl _)⟩) (fun n e => by omega) (fun _ _ _ _ _ _ _ _ _ _ _ h => h) (fun _ => rfl) (fun n i Ha hn hi sa Q' q' => ?_) (fun n D7 ys Ha hn hD7 sa hy e1 e2 => ?_)
      · have hi' : i < zs.length := by omega
        have gb : (((List.range zs.length).map bs).map V.bl)[i]? = some (.bl (bs i)) := by
          rw [List.getElem?_map, List.getElem?_map, List.getElem?_range hi']
          rfl
        have gz : zs[i]? = some zs[i] := List.getElem?_eq_getElem hi'
        have ki : ((0 : Int) + (i : Nat)) = ((i : Nat) : Int) := by omega
        have hM := (hsh6 i _ gz).same sa
        refine ⟨_, rfl, _, rfl, D5, _, _, .bl (bs i), rfl, rfl, SqL.of (sa _ _ hD56), by rw [ki]; exact atI_nat gb, bs i, rfl, ?_⟩
        refine ite2 (fun c
              => ?_) (fun c => ?_)
        · obtain ⟨a, xs', ea, hS', ec⟩ := shp_true hM c
          refine ⟨_, rfl, _, rfl, D4, _, _, zs[i], rfl, rfl, SqL.of (sa _ _ hD46), by rw [ki]; exact atI_nat gz, ?_⟩
          rw [ea]
          refine ⟨a, xs', rfl, Or.inr hS', _, _, rfl, rfl, _, rfl, ?_⟩
          refine ite2 (fun c2 => ?_) (fun c2 => ?_)
          · refine ⟨_, _, rfl, rfl, q' _ Ha ?_ (Same.refl _)⟩
            have h2 := of_decide_eq_true c2
            rw [ec, decide_eq_true (by omega : 3 ≤ xs'.length), Bool.true_and]
            exact congrArg V.bl (decide_eq_decide.mpr ⟨fun h => by omega, fun h => by omega⟩)
          · refine q' _ Ha ?_ (Same.refl _)
            have h2 : ¬ 3 ≤ xs'.length := fun z => c2 (decide_eq_true (by omega))
            rw [ec, decide_eq_false h2, Bool.false_and]
        · refine q' _ Ha ?_ (Same.refl _)
          rw [shp_false hM (Bool.eq_false_iff.mpr c)]
      · have ey : ys = ((List.range zs.length).map cs).map V.bl := by
          apply List.ext_getElem?
          intro i
          rw [List.getElem?_map,
                List.getElem?_map]
          by_cases h : i < zs.length
          · rw [List.getElem?_range h, List.getElem?_eq_getElem (by omega)]
            rw [e2 i _ (List.getElem?_eq_getElem (by omega))]
            rfl
          · rw [List.getElem?_eq_none (by omega), List.getElem?_eq_none (by rw [List.length_range]; omega)]
            rfl
        rw [ey] at hy
        exact ⟨D7, rfl, sa, hy⟩
    rintro σ7 H7 ⟨D7, rfl, s7, hD7⟩
    have hD47 := s7 _ _ hD46
    have hsh7 : ∀ i z, zs[i]? = some z → Shp K H7 z (bs i) (cs i) := fun i z hi => (hsh6 i z hi).same s7
    have z7 := z4.trans (s5.trans (s6.trans s7))
    have g0 : (((List.range zs.length).map cs).map V.bl)[0]? = some (.bl true) := by
      rw [List.getElem?_map, List.getElem?_map, List.getElem?_range (by omega), ← c0]
      rfl
    refine ⟨_, rfl, D7, _, 0, .bl true, rfl, rfl, SqL.of hD7, atI_nat (j := 0) g0, true, rfl, iteT ?_⟩
    unfold tChain tCB tCons tNil
    dsimp only
    refine lcB (K := K) (a := D4) (xs := zs) cs (fun R r => ⟨_, rfl, r⟩) hD47 (by omega) (fun _ => rfl) (fun i z Ha hi sa Q' q' => ?_) (fun D8 Ha sD hD8 => ?_)
    · exact ⟨_, rfl, z, bs i, cs i, rfl, (hsh7 i z hi).same sa, fun Hb sb => q' Hb sb⟩
    refine ⟨D8, _, rfl, dp_bools hD8, j1, j2, j3, j4, ?_⟩
    refine ⟨_, rfl, D7, _, rfl, dp_bools (sD _ _ hD7), j1, j2, j3, j4, ?_⟩
    refine ⟨rfl, true, congrArg V.bl (decide_eq_true rfl), iteT ?_⟩
    refine lcB (K := K) (a := D4) (xs := zs) cs (fun R r => ⟨_, rfl, r⟩) (sD _ _ hD47) (by omega) (fun _ => rfl) (fun i z Hb hi sb Q' q' => ?_) (fun D9 Hb sD2 hD9 => ?_)
    · exact ⟨_, rfl, z, bs i, cs i, rfl, (hsh7 i z hi).same (sD.trans sb), fun Hc sc => q' Hc sc⟩
    refine ⟨D9, _, rfl, dp_bools hD9, j1, j2, j3, j4, rfl, ?_⟩
    refine eq_same (R := fun v => Q v Hb) ?_
    exact q _ (z7.trans (sD.trans sD2))
end
end K05

namespace K05
open PySem L2 Ur Hull
section
variable {P' : Program} {w : World} {K :
      PySem.W.Frag} {mg : Str → Option Value} {base : Heap}
abbrev n_law : List Str := ["_law_script", "_law_lap"]
abbrev p_law : List Str := ["_law_script"]
theorem sc_law : FnScope n_law p_law (defScope sLaw) := ⟨rfl, rfl, rfl, by decide +kernel, rfl, by decide +kernel, by decide +kernel⟩
def spLaw (K : PySem.W.Frag) : Sp := fun vs H Q _ => ∃ (a : Addr) (ns : List Int), vs = [.ref a] ∧ SqL K H a (ns.map V.int) ∧ ∀ H' : Hp, Q (.bl true) H'
theorem ok_law {f : Addr} {fd : FuncData} (F : Fun K "law" "law" sLaw f fd) (T : Bl mg) (H_law_laps : Has P' w K mg base "_law_laps" p_law_laps 1 (spLaps K)) (H_law_urn : Has P' w K mg base "_law_urn" p_law_urn 1 (spUrn K))
    (HG_law_right : HasG P' w K mg base "_law_right" p_law_right 9 spRight) : FnG P' w K mg base CX0 10 f fd p_law (spLaw K) := by
  refine okG F sc_law (fun vs H Q E h => ?_) (fun cdv A outer s H vs Q E hg hr h => ?_)
  · obtain ⟨a, ns, rfl, _⟩ := h
    rfl
  · obtain ⟨a, ns, rfl, hS, q⟩ := h
    refine ⟨_, (pss_cons (ps_for PassesOwn.never rfl (pi_range1 (by rfl) T.range (pa_cons (pe_has H_law_laps (hr.mono (by decide)) (by rfl) (pa_cons (pv 0) pa_nil)) pa_nil)) (pg_name (i := 1) sc_law.nd rfl (Or.inl rfl)) (pss_one (ps_if (pt_not (pt_val (pe_hasG HG_law_right hg (hr.mono (by decide)) (by rfl) (pa_cons (pe_shut (pe_has H_law_urn (hr.mono (by decide)) (by rfl) (pa_cons (pv 0) (pa_cons (pv 1) pa_nil)))) pa_nil)))) (pss_one (ps_ret pe_bl)) pss_nil)))
      (pss_one (ps_ret
            pe_bl))), ?_⟩
    refine ⟨_, rfl, a, _, rfl, hS, fun n n0 n1 => ⟨n, rfl, by omega, by omega, for_range (lo := 0) (n := n.toNat) (fun i σ H' => ∃ v : Option V, σ = [some (.ref a), v] ∧ Same H H') ⟨none, rfl, Same.refl _⟩ ?_ ?_⟩⟩
    · rintro i σ H0 hi ⟨v, rfl, s0⟩
      refine ⟨_, rfl, _, rfl, a, ns, _, rfl, s0.seq hS, by omega, by omega, fun p x y z H2 hp s2 B hy => ⟨p, rfl, x, y, z, B, hy, p, rfl, upd_same, fun H3 s3 => ⟨true, rfl, ?_⟩⟩⟩
      exact ⟨_, rfl, s0.trans ((same_own s2 hp).trans s3)⟩
    · rintro σ H' ⟨v, rfl, s0⟩
      exact q H'
end
end K05

namespace Ur
open PySem L2
def FndR (K : PySem.W.Frag) (mg : Str → Option Value) (x : Str) (st : Stmt) (ps : List Str) : Prop :=
  ∃ f fd, Fun K x x st f fd ∧ mg x = some (.ref f) ∧ Binds K fd ps [] ∧ ∀ (s : Shared) (ws : List Value), ws.length = ps.length → BindsTo s fd ⟨[], ps.reverse.zip ws⟩ (ps.zip ws.reverse)
section
variable {P : Program} {w : World} {K : PySem.W.Frag} {mg : Str → Option Value} {base : Heap} {x : Str} {st : Stmt} {ps : List Str} {k : Nat} {sp : Sp}
theorem FndR.fnd (D : FndR K mg x st ps) : Fnd K mg x st ps := by
  obtain ⟨f, fd, F, m, b, _⟩ := D
  exact ⟨f, fd, F, m, b⟩
theorem FndR.hasR (D : FndR K mg x st ps) (h : ∀ {f fd}, Fun K x x st f fd → FnOk P w K mg base CX0 k f fd ps sp) : HasR P w K mg base x ps k sp := by
  obtain ⟨f, fd, F, m, _, b⟩ := D
  exact ⟨f, fd, h F, m, F.kp, fun s ws _ hl => b s ws hl⟩
end
section
variable {K : PySem.W.Frag} {h : Heap} {mg : Str → Option Value} {x : Str} {st : Stmt} {ps : List Str} {f : Addr} {oc kV dc pm cd ct : Value} {od an : Option Addr} {sl : Array (Option Value)}
theorem fndR_mk (X : K.In h) (G : h.Ns mainGlobals mg) (a : PySem.W.nsIn K mainGlobals x = some (some (.ref f))) (l : K.lookup f = some ⟨oc, od, .func (PySem.W.fnOf x x (defArgs st) (defBody st) (defScope st) .none kV dc pm an cd ct), sl⟩)
    (c : PySem.W.codeIn K cd x = true) (k : PySem.W.keepIn K (.ref f) = true)
    (hb : ∀ (kV doc pm : Value) (an : Option Addr) (cdv ct : Value) (us : List Value), us.length = ps.length → bindArgs (PySem.W.fnOf x x (defArgs st) (defBody st) (defScope st) .none kV doc pm an cdv ct) ⟨us, []⟩ = pure (ps.zip us))
    (hk : ∀ (kV doc pm : Value) (an : Option Addr) (cdv ct : Value) (ws : List Value), ws.length = ps.length → bindArgs (PySem.W.fnOf x x (defArgs st) (defBody st) (defScope st) .none kV doc pm an cdv ct) ⟨[], ps.reverse.zip ws⟩ = pure (ps.zip ws.reverse)) : FndR K mg x st ps := by
  have F := fun_mk l c k
  exact ⟨f, _, F, PySem.W.mg_of X G a, F.binds hb, fun s ws hl => .of_eq (hk _ _ _ _ _ _ ws hl)⟩
end
end Ur
namespace K05
open PySem L2 Ur
section
variable {P : Program} {w : World} {K :
      PySem.W.Frag} {mg : Str → Option Value} {base : Heap}
theorem all_ok {f : Addr} {fd : FuncData} (F : Fun K "law" "law" sLaw f fd) (T : Bl mg) (mG : mg "gcd" = some (.builtin "math.gcd")) (mL : mg "lcm" = some (.builtin "math.lcm"))
    (D0 : Ur.Fnd K mg "_law_pull" sPull ["_law_urn_here", "_law_many"]) (D1 : Ur.Fnd K mg "_law_urn" sUrn K05.p_law_urn) (D2 : Ur.Fnd K mg "_law_gcd" sGcd K05.p_law_gcd) (D3 : Ur.Fnd K mg "_law_thin" sThin K05.p_law_thin) (D4 : Ur.Fnd K mg "common_divisor" sCom K05.p_common_divisor) (D5 : Ur.Fnd K mg "is_whole" sWhole K05.n_is_whole) (D6 : Ur.Fnd K mg "wholes_fit" sWholes K05.p_wholes_fit) (D7 : Ur.Fnd K mg "point_fits" sPointF K05.n_value) (D8 : Ur.Fnd K mg "_law_any" sAny K05.p_law_any) (D9 : Ur.Fnd K mg "_law_num" sNum K05.p_law_num) (D10 : Ur.Fnd K mg "_law_laps" sLaps K05.p_law_laps) (D11 : Ur.Fnd K mg "place" sPlace K05.p_place) (D12 : Ur.Fnd K mg "_law_frac" sLFrac K05.p_lfrac) (D13 : Ur.Fnd K mg "_law_sign" sLSign K05.p_lnum) (D14 : Ur.Fnd K mg "_law_spot" sLSpot K05.p_lspot) (D15 : Ur.Fnd K mg "_law_way" sLWay K05.p_lway) (D16 : Ur.Fnd K mg "_law_on" sLOn K05.p_lon) (D17 : Ur.Fnd K mg "_law_cross" sLCross K05.p_lsg) (D18 : Ur.Fnd K mg "_law_by" sLBy K05.p_lby) (D19 : Ur.Fnd K mg "_law_side" sLSide K05.p_lside) (D20 : Ur.Fnd K mg "_law_add" sLAdd K05.p_l12) (D21 : Ur.Fnd K mg "_law_before" sLBefore K05.p_lway) (D22 : Ur.Fnd K mg "on_scale" sOnScale K05.p_points) (D23 : Ur.Fnd K mg "twice_triangle" sTT K05.p_tt) (D24 : Ur.Fnd K mg "_left_bends" sLB K05.p_spots) (D25 : Ur.Fnd K mg "hull_of" sHull K05.p_points) (D26 : Ur.Fnd K mg "_law_sorted" sLSorted K05.p_lspots) (D27 : Ur.Fnd K mg "_law_hull" sLHull K05.p_lspots) (D28 : Ur.Fnd K mg "_law_middle" sLMiddle K05.p_lspots) (D29 : Ur.Fnd K mg "_law_plate" sLPlate K05.p_lurn) (D30 : Ur.Fnd K mg "_law_next" sLNext K05.p_pk) (D31 : Ur.Fnd K mg "_law_edge" sLEdge K05.p_pk) (D32 : Ur.Fnd K mg "_law_sorted" sLSorted K05.p_lspots) (D33 : Ur.Fnd K mg "_law_hull" sLHull K05.p_lspots) (D34 : Ur.Fnd K mg "_law_is_whole" sLWhole K05.n_law_is_whole) (D35 : Ur.Fnd K mg "_law_are_whole" sAre K05.p_law_are_whole) (D36 : Ur.Fnd K mg "_law_is_spot" sIsSpot K05.n_lthg) (D37 : Ur.Fnd K mg "polygon_fits" sPolyF K05.n_value) (D38 : Ur.Fnd K mg "section_fits" sSecF K05.n_value) (D39 : Ur.FndR K mg "is_section" sIsSec K05.n_value) (D40 : Ur.FndR K mg "is_polygon" sIsPol K05.n_value) (D41 : Ur.Fnd K mg "_law_is_shape" sShape K05.p_shape) (D42 : Ur.Fnd K mg "_law_odd" sOdd K05.p_odd) (D43 : Ur.Fnd K mg "_law_bent" sBent K05.p_bent) (D44 : Ur.Fnd K mg "_law_right" sRight K05.p_law_right) :
    FnG P w K mg base CX0 10 f fd p_law (spLaw K) := by
  have h__law_pull : Has P w K mg base "_law_pull" ["_law_urn_here", "_law_many"] 1 spPull := D0.has fun F => ok_pull F T
  have h__law_urn : Has P w K mg base "_law_urn" K05.p_law_urn 1 (spUrn K) := D1.has fun F => ok_urn F T
  have h__law_gcd : Has P w K mg base "_law_gcd" K05.p_law_gcd 1 spGcd := D2.has fun F => ok_gcd F T
  have h__law_thin : Has P w K mg base "_law_thin" K05.p_law_thin 2 (spThin K) := D3.has fun F => ok_thin F T h__law_gcd
  have h_common_divisor : Has P w K mg base "common_divisor" K05.p_common_divisor 1 (spCom K) := D4.has fun F => ok_com F mG
  have h_is_whole : Has P w K mg base "is_whole" K05.n_is_whole 1 (spWhole K) := D5.has fun F => ok_whole F T
  have h_wholes_fit : Has P w K mg base "wholes_fit" K05.p_wholes_fit 2 (spTold K fun xs => xs.all wh) := D6.has fun F => ok_wholes F T h_is_whole
  have h_point_fits : Has P w K mg base "point_fits" K05.n_value 3 (spTold K isPt) := D7.has fun F => ok_pointF F T h_common_divisor h_wholes_fit
  have h__law_any : Has P w K mg base "_law_any" K05.p_law_any 2 spAny := D8.has fun F => ok_any F T h__law_pull
  have h__law_num : Has P w K mg base "_law_num" K05.p_law_num 2 spNum := D9.has fun F => ok_num F h__law_pull
  have h__law_laps : Has P w K mg base "_law_laps" K05.p_law_laps 1 (spLaps K) := D10.has fun F => ok_laps F T
  have h_place : Has P w K mg base "place" K05.p_place 1 (spN3 K) := D11.has fun F => ok_place F mG
  have h__law_frac : Has P w K mg base "_law_frac" K05.p_lfrac 3 (spN2 K) := D12.has fun F => ok_lfrac F h__law_thin
  have h__law_sign : Has P w K mg base "_law_sign" K05.p_lnum 1 spSgn := D13.has fun F => ok_lsign F T
  have h__law_spot : Has P w K mg base "_law_spot" K05.p_lspot 3 (spN3 K) := D14.has fun F => ok_lspot F h__law_thin
  have h__law_way : Has P w K mg base "_law_way" K05.p_lway 4 (spP2 K wayL) := D15.has fun F => ok_sLWay F h__law_spot
  have h__law_on : Has P w K mg base "_law_on" K05.p_lon 4 (spP2 K sumL) := D16.has fun F => ok_sLOn F h__law_spot
  have h__law_cross : Has P w K mg base "_law_cross" K05.p_lsg 4 (spP2 K crsL) := D17.has fun F => ok_sLCross F h__law_frac
  have h__law_by : Has P w K mg base "_law_by" K05.p_lby 4 (spPF K byL) := D18.has fun F => ok_lby F h__law_spot
  have h__law_side : Has P w K mg base "_law_side" K05.p_lside 5 (spLSide K) := D19.has fun F => ok_lside F h__law_way h__law_cross h__law_sign
  have h__law_add : Has P w K mg base "_law_add" K05.p_l12 4 (spFF K) := D20.has fun F => ok_ladd F h__law_frac
  have h__law_before : Has P w K mg base "_law_before" K05.p_lway 5 (spBef K) := D21.has fun F => ok_lbef F h__law_way
  have h_on_scale : Has P w K mg base "on_scale" K05.p_points 1 (spScale K) := D22.has fun F => ok_scale F mL
  have h_twice_triangle : Has P w K mg base "twice_triangle" K05.p_tt 1 spTT := D23.has fun F => ok_tt F 
  have h__left_bends : Has P w K mg base "_left_bends" K05.p_spots 2 (spLB K) := D24.has fun F => ok_lb F T h_twice_triangle
  have h_hull_of : Has P w K mg base "hull_of" K05.p_points 3 (spHull K) := D25.has fun F => ok_hull F T h_on_scale h__left_bends h_place
  have h__law_sorted : Has P w K mg base "_law_sorted" K05.p_lspots 6 (spSorted K) := D26.has fun F => ok_lsorted F T h__law_before
  have h__law_hull : Has P w K mg base "_law_hull" K05.p_lspots 7 (spLHull K) := D27.has fun F => ok_lhull F T h__law_sorted h__law_side
  have h__law_middle : Has P w K mg base "_law_middle" K05.p_lspots 5 (spMid K) := D28.has fun F => ok_lmiddle F T h__law_way h__law_cross h__law_add h__law_on h__law_by h__law_frac
  have h__law_plate : Has P w K mg base "_law_plate" K05.p_lurn 8 (spPlate K) := D29.has fun F => ok_lplate F T h__law_pull h__law_any h__law_num h__law_spot h__law_hull
  have h__law_next : Has P w K mg base "_law_next" K05.p_pk 1 (spNext K) := D30.has fun F => ok_lnext F T
  have h__law_edge : Has P w K mg base "_law_edge" K05.p_pk 5 (spEdge K) := D31.has fun F => ok_ledge F h__law_way h__law_next
  have h__law_sorted_1 : Has P w K mg base "_law_sorted" K05.p_lspots 6 (spSortedT K) := D32.has fun F => ok_lsortedT F T h__law_before
  have h__law_hull_1 : Has P w K mg base "_law_hull" K05.p_lspots 7 (spLHullT K) := D33.has fun F => ok_lhullT F T h__law_sorted_1 h__law_side
  have h__law_is_whole : Has P w K mg base "_law_is_whole" K05.n_law_is_whole 1 (spWhole K) := D34.has fun F => ok_lwhole F T
  have h__law_are_whole : Has P w K mg base "_law_are_whole" K05.p_law_are_whole 2 (spAre K) := D35.has fun F => ok_are F T h__law_is_whole
  have h__law_is_spot : Has P w K mg base "_law_is_spot" K05.n_lthg 3 (spTold K isPt) := D36.has fun F => ok_isSpot F T h__law_are_whole h__law_thin
  have h_polygon_fits : Has P w K mg base "polygon_fits" K05.n_value 4 (spPlA K) := D37.has fun F => ok_polyA F T h_point_fits h_hull_of
  have h_section_fits : Has P w K mg base "section_fits" K05.n_value 5 (spScA K) := D38.has fun F => ok_secA F T h_polygon_fits
  have h_is_section : Has P w K mg base "is_section" K05.n_value 6 (spScA K) := D39.fnd.has fun F => ok_isSec F h_section_fits
  have r_is_section : HasR P w K mg base "is_section" K05.n_value 6 (spScA K) := D39.hasR fun F => ok_isSec F h_section_fits
  have h_is_polygon : Has P w K mg base "is_polygon" K05.n_value 5 (spPlA K) := D40.fnd.has fun F => ok_isPol F h_polygon_fits
  have r_is_polygon : HasR P w K mg base "is_polygon" K05.n_value 5 (spPlA K) := D40.hasR fun F => ok_isPol F h_polygon_fits
  have h__law_is_shape : Has P w K mg base "_law_is_shape" K05.p_shape 8 (spPlA K) := D41.has fun F => ok_shape F T h__law_is_spot h__law_hull_1
  have h__law_odd : Has P w K mg base "_law_odd" K05.p_odd 3 (spOddB K) := D42.has fun F => ok_odd F T h__law_any
  have h__law_bent : Has P w K mg base "_law_bent" K05.p_bent 7 (spBent K) := D43.has fun F => ok_bent F T h__law_pull h__law_on h__law_by h__law_edge h__law_way h__law_middle h__law_any h__law_odd
  have h__law_right : HasG P w K mg base "_law_right" K05.p_law_right 9 spRight := D44.hasG fun F => ok_right F T h__law_plate h__law_pull h__law_num h__law_spot h__law_bent h__law_is_shape h_is_polygon r_is_polygon h_is_section r_is_section
  exact ok_law F T h__law_laps h__law_urn h__law_right
end
theorem walk3 {l : PySem.W.OpenLaw} {q : Program} {loose : List Str} {XP : (Str → Option Value) → Heap → Prop} {YP : World → Heap → Prop} {d : DefRec} {K : Params → PySem.W.Frag} (hn : l.most = some 63) (hdf : d.params.defaults = [])
    (hY : ∀ (w : World) (h : Heap),
          YP w h → (K w.params).In h)
    (F : ∀ (w : World) (mg : Str → Option Value) (fa : Addr) (h : Heap),
          (K w.params).In h → h.Ns mainGlobals mg → mg d.name = some (.ref fa) →
      ∃ fd : FuncData, (∀ (s : Shared) (u : Value), BindsTo s fd ⟨[u], []⟩ [("_law_script", u)]) ∧ ∀ base : Heap, (K w.params).In base → base.Ns mainGlobals mg → FnG l.prog w (K w.params) mg base CX0 10 fa fd p_law (spLaw (K w.params))) :
    PySem.W.WalkO q loose XP YP l.row.toRowW
          d [] (fun f vs => PySem.call f vs) :=
  walkG (n := 63) (k := 10) (x := "_law_script") (sp := fun K => spLaw K) hn (by decide) hdf ⟨rfl, by decide, by decide⟩ hY F fun _ _ a ns _ hS => ⟨a, ns, rfl, hS, fun _ => rfl⟩
theorem law_mk {l : PySem.W.OpenLaw} {w : World} {K : PySem.W.Frag} {h : Heap} {mg : Str → Option Value} {fa f1 : Addr} (X : K.In h) (G : h.Ns mainGlobals mg) (hfa : mg "law" = some (.ref fa))
    {oc kV dc pm cd ct : Value} {od an : Option Addr} {sl : Array (Option Value)} (a : PySem.W.nsIn K mainGlobals "law" = some (some (.ref f1)))
    (lk : K.lookup f1 = some ⟨oc, od, .func (PySem.W.fnOf "law" "law" (defArgs sLaw) (defBody sLaw) (defScope sLaw) .none kV dc pm an cd ct), sl⟩) (c : PySem.W.codeIn K cd "law" = true) (k : PySem.W.keepIn K (.ref f1) = true)
    (ok : ∀ (base : Heap) (fd : FuncData), Fun K "law" "law" sLaw f1 fd → FnG l.prog w K mg base CX0 10 f1 fd p_law (spLaw K)) :
    ∃ fd : FuncData, (∀ (s : Shared) (u : Value), BindsTo s fd ⟨[u], []⟩ [("_law_script", u)]) ∧ ∀ base : Heap, K.In base → base.Ns mainGlobals mg → FnG l.prog w K mg base CX0 10 fa fd p_law (spLaw K) := by
  obtain rfl : fa = f1 := by
    have e := hfa.symm.trans (PySem.W.mg_of X G a)
    cases e
    rfl
  exact ⟨_, fun s u => .of_eq rfl, fun base _ _ => ok base _ (fun_mk lk c k)⟩
theorem law_all {l : PySem.W.OpenLaw} {w : World} {K : PySem.W.Frag} {h : Heap} {mg : Str → Option Value} {fa f1 : Addr} (X : K.In h) (G : h.Ns mainGlobals mg) (hfa : mg "law" = some (.ref fa)) (T : Bl mg) (mG : mg "gcd" = some (.builtin "math.gcd")) (mL : mg "lcm" = some (.builtin "math.lcm"))
    (D0 : Ur.Fnd K mg "_law_pull" sPull ["_law_urn_here", "_law_many"]) (D1 : Ur.Fnd K mg "_law_urn" sUrn K05.p_law_urn) (D2 : Ur.Fnd K mg "_law_gcd" sGcd K05.p_law_gcd) (D3 : Ur.Fnd K mg "_law_thin" sThin K05.p_law_thin) (D4 : Ur.Fnd K mg "common_divisor" sCom K05.p_common_divisor) (D5 : Ur.Fnd K mg "is_whole" sWhole K05.n_is_whole) (D6 : Ur.Fnd K mg "wholes_fit" sWholes K05.p_wholes_fit) (D7 : Ur.Fnd K mg "point_fits" sPointF K05.n_value) (D8 : Ur.Fnd K mg "_law_any" sAny K05.p_law_any) (D9 : Ur.Fnd K mg "_law_num" sNum K05.p_law_num) (D10 : Ur.Fnd K mg "_law_laps" sLaps K05.p_law_laps) (D11 : Ur.Fnd K mg "place" sPlace K05.p_place) (D12 : Ur.Fnd K mg "_law_frac" sLFrac K05.p_lfrac) (D13 : Ur.Fnd K mg "_law_sign" sLSign K05.p_lnum) (D14 : Ur.Fnd K mg "_law_spot" sLSpot K05.p_lspot) (D15 : Ur.Fnd K mg "_law_way" sLWay K05.p_lway) (D16 : Ur.Fnd K mg "_law_on" sLOn K05.p_lon) (D17 : Ur.Fnd K mg "_law_cross" sLCross K05.p_lsg) (D18 : Ur.Fnd K mg "_law_by" sLBy K05.p_lby) (D19 : Ur.Fnd K mg "_law_side" sLSide K05.p_lside) (D20 : Ur.Fnd K mg "_law_add" sLAdd K05.p_l12) (D21 : Ur.Fnd K mg "_law_before" sLBefore K05.p_lway) (D22 : Ur.Fnd K mg "on_scale" sOnScale K05.p_points) (D23 : Ur.Fnd K mg "twice_triangle" sTT K05.p_tt) (D24 : Ur.Fnd K mg "_left_bends" sLB K05.p_spots) (D25 : Ur.Fnd K mg "hull_of" sHull K05.p_points) (D26 : Ur.Fnd K mg "_law_sorted" sLSorted K05.p_lspots) (D27 : Ur.Fnd K mg "_law_hull" sLHull K05.p_lspots) (D28 : Ur.Fnd K mg "_law_middle" sLMiddle K05.p_lspots) (D29 : Ur.Fnd K mg "_law_plate" sLPlate K05.p_lurn) (D30 : Ur.Fnd K mg "_law_next" sLNext K05.p_pk) (D31 : Ur.Fnd K mg "_law_edge" sLEdge K05.p_pk) (D32 : Ur.Fnd K mg "_law_sorted" sLSorted K05.p_lspots) (D33 : Ur.Fnd K mg "_law_hull" sLHull K05.p_lspots) (D34 : Ur.Fnd K mg "_law_is_whole" sLWhole K05.n_law_is_whole) (D35 : Ur.Fnd K mg "_law_are_whole" sAre K05.p_law_are_whole) (D36 : Ur.Fnd K mg "_law_is_spot" sIsSpot K05.n_lthg) (D37 : Ur.Fnd K mg "polygon_fits" sPolyF K05.n_value) (D38 : Ur.Fnd K mg "section_fits" sSecF K05.n_value) (D39 : Ur.FndR K mg "is_section" sIsSec K05.n_value) (D40 : Ur.FndR K mg "is_polygon" sIsPol K05.n_value) (D41 : Ur.Fnd K mg "_law_is_shape" sShape K05.p_shape) (D42 : Ur.Fnd K mg "_law_odd" sOdd K05.p_odd) (D43 : Ur.Fnd K mg "_law_bent" sBent K05.p_bent) (D44 : Ur.Fnd K mg "_law_right" sRight K05.p_law_right)
    {oc kV dc pm cd ct : Value} {od an : Option Addr} {sl : Array (Option Value)} (a : PySem.W.nsIn K mainGlobals "law" = some (some (.ref f1)))
    (lk : K.lookup f1 = some ⟨oc, od, .func (PySem.W.fnOf "law" "law" (defArgs sLaw) (defBody sLaw) (defScope sLaw) .none kV dc pm an cd ct), sl⟩) (c : PySem.W.codeIn K cd "law" = true) (k : PySem.W.keepIn K (.ref f1) = true) :
    ∃ fd : FuncData, (∀ (s : Shared) (u : Value), BindsTo s fd ⟨[u], []⟩ [("_law_script", u)]) ∧ ∀ base : Heap, K.In base → base.Ns mainGlobals mg → FnG l.prog w K mg base CX0 10 fa fd p_law (spLaw K) :=
  law_mk X G hfa a lk c k fun base fd F => all_ok F T mG mL D0 D1 D2 D3 D4 D5 D6 D7 D8 D9 D10 D11 D12 D13 D14 D15 D16 D17 D18 D19 D20 D21 D22 D23 D24 D25 D26 D27 D28 D29 D30 D31 D32 D33 D34 D35 D36 D37 D38 D39 D40 D41 D42 D43 D44
end K05

open PySem PySem.W
      PyProof.Rows
set_option
      maxRecDepth 100000 in
set_option maxHeartbeats 0 in
theorem PySem.Challenge.cw_hullrests_k05_whole_sections_and_polygon_holds : PySem.Challenge.rw_hullrests_k05_whole_sections_and_polygon.Holds := by
  w_on; o_law; k_head;
        (case hw => w_witness2)
  k_fill
  refine K05.walk3 (l := PySem.Challenge.rw_hullrests_k05_whole_sections_and_polygon) rfl rfl (fun w h Y => PySem.W.kIn_of Y) ?F
  case F =>
    intro w mg fa h KX G hmg
    have T : K05.Bl mg := by
      refine' ⟨PySem.W.mg_none_of KX G ?_, PySem.W.mg_none_of KX G ?_, PySem.W.mg_none_of KX G ?_, PySem.W.mg_none_of KX G ?_, PySem.W.mg_none_of KX G ?_, PySem.W.mg_none_of KX G ?_, PySem.W.mg_none_of KX G ?_, PySem.W.mg_none_of KX G ?_, PySem.W.mg_none_of KX G ?_, PySem.W.mg_none_of KX G ?_, PySem.W.mg_none_of KX G ?_, PySem.W.mg_none_of KX G ?_, PySem.W.mg_none_of KX G ?_, PySem.W.mg_none_of KX G ?_, PySem.W.mg_none_of KX G ?_, PySem.W.mg_none_of KX G ?_, PySem.W.mg_none_of KX G ?_, PySem.W.mg_none_of KX G ?_⟩ <;> k_is
    have mG : mg "gcd" = some (.builtin "math.gcd") := by
      refine' PySem.W.mg_of KX G ?_
      k_is
    have mL : mg "lcm" = some (.builtin "math.lcm") := by
      refine' PySem.W.mg_of KX G ?_
      k_is
    refine' K05.law_all KX G hmg T mG mL
      (Ur.fnd_mk (x := "_law_pull") (st := K05.sPull) (ps := ["_law_urn_here", "_law_many"]) KX G ?a0 ?l0 ?c0 ?k0 (fun _ _ _ _ _ _ us hl => match us, hl with | [_, _], _ => rfl))
      (Ur.fnd_mk (x := "_law_urn") (st := K05.sUrn) (ps := K05.p_law_urn) KX G ?a1 ?l1 ?c1 ?k1 (fun _ _ _ _ _ _ us hl => match us, hl with | [_, _], _ => rfl))
      (Ur.fnd_mk (x := "_law_gcd") (st := K05.sGcd) (ps := K05.p_law_gcd) KX G ?a2 ?l2 ?c2 ?k2 (fun _ _ _ _ _ _ us hl => match us, hl with | [_, _], _ => rfl))
      (Ur.fnd_mk (x := "_law_thin") (st := K05.sThin) (ps := K05.p_law_thin) KX G ?a3 ?l3 ?c3 ?k3 (fun _ _ _ _ _ _ us hl => match us, hl with | [_], _ => rfl))
      (Ur.fnd_mk (x := "common_divisor") (st := K05.sCom) (ps := K05.p_common_divisor) KX G ?a4 ?l4 ?c4 ?k4 (fun _ _ _ _ _ _ us hl => match us, hl with | [_], _ => rfl))
      (Ur.fnd_mk (x := "is_whole") (st := K05.sWhole) (ps := K05.n_is_whole) KX G ?a5 ?l5 ?c5 ?k5 (fun _ _ _ _ _ _ us hl => match us, hl with | [_], _ => rfl))
      (Ur.fnd_mk (x := "wholes_fit") (st := K05.sWholes) (ps := K05.p_wholes_fit) KX G ?a6 ?l6 ?c6 ?k6 (fun _ _ _ _ _ _ us hl => match us, hl with | [_], _ => rfl))
      (Ur.fnd_mk (x := "point_fits") (st := K05.sPointF) (ps := K05.n_value) KX G ?a7 ?l7 ?c7 ?k7 (fun _ _ _ _ _ _ us hl => match us, hl with | [_], _ => rfl))
      (Ur.fnd_mk (x := "_law_any") (st := K05.sAny) (ps := K05.p_law_any) KX G ?a8 ?l8 ?c8 ?k8 (fun _ _ _ _ _ _ us hl => match us, hl with | [_, _], _ => rfl))
      (Ur.fnd_mk (x := "_law_num") (st := K05.sNum) (ps := K05.p_law_num) KX G ?a9 ?l9 ?c9 ?k9 (fun _ _ _ _ _ _ us hl => match us, hl with | [_, _], _ => rfl))
      (Ur.fnd_mk (x := "_law_laps") (st := K05.sLaps) (ps := K05.p_law_laps) KX G ?a10 ?l10 ?c10 ?k10 (fun _ _ _ _ _ _ us hl => match us, hl with | [_], _ => rfl))
      (Ur.fnd_mk (x := "place") (st := K05.sPlace) (ps := K05.p_place) KX G ?a11 ?l11 ?c11 ?k11 (fun _ _ _ _ _ _ us hl => match us, hl with | [_, _, _], _ => rfl))
      (Ur.fnd_mk (x := "_law_frac") (st := K05.sLFrac) (ps := K05.p_lfrac) KX G ?a12 ?l12 ?c12 ?k12 (fun _ _ _ _ _ _ us hl => match us, hl with | [_, _], _ => rfl))
      (Ur.fnd_mk (x := "_law_sign") (st := K05.sLSign) (ps := K05.p_lnum) KX G ?a13 ?l13 ?c13 ?k13 (fun _ _ _ _ _ _ us hl => match us, hl with | [_], _ => rfl))
      (Ur.fnd_mk (x := "_law_spot") (st := K05.sLSpot) (ps := K05.p_lspot) KX G ?a14 ?l14 ?c14 ?k14 (fun _ _ _ _ _ _ us hl => match us, hl with | [_, _, _], _ => rfl))
      (Ur.fnd_mk (x := "_law_way") (st := K05.sLWay) (ps := K05.p_lway) KX G ?a15 ?l15 ?c15 ?k15 (fun _ _ _ _ _ _ us hl => match us, hl with | [_, _], _ => rfl))
      (Ur.fnd_mk (x := "_law_on") (st := K05.sLOn) (ps := K05.p_lon) KX G ?a16 ?l16 ?c16 ?k16 (fun _ _ _ _ _ _ us hl => match us, hl with | [_, _], _ => rfl))
      (Ur.fnd_mk (x := "_law_cross") (st := K05.sLCross) (ps := K05.p_lsg) KX G ?a17 ?l17 ?c17 ?k17 (fun _ _ _ _ _ _ us hl => match us, hl with | [_, _], _ => rfl))
      (Ur.fnd_mk (x := "_law_by") (st := K05.sLBy) (ps := K05.p_lby) KX G ?a18 ?l18 ?c18 ?k18 (fun _ _ _ _ _ _ us hl => match us, hl with | [_, _], _ => rfl))
      (Ur.fnd_mk (x := "_law_side") (st := K05.sLSide) (ps := K05.p_lside) KX G ?a19 ?l19 ?c19 ?k19 (fun _ _ _ _ _ _ us hl => match us, hl with | [_, _, _], _ => rfl))
      (Ur.fnd_mk (x := "_law_add") (st := K05.sLAdd) (ps := K05.p_l12) KX G ?a20 ?l20 ?c20 ?k20 (fun _ _ _ _ _ _ us hl => match us, hl with | [_, _], _ => rfl))
      (Ur.fnd_mk (x := "_law_before") (st := K05.sLBefore) (ps := K05.p_lway) KX G ?a21 ?l21 ?c21 ?k21 (fun _ _ _ _ _ _ us hl => match us, hl with | [_, _], _ => rfl))
      (Ur.fnd_mk (x := "on_scale") (st := K05.sOnScale) (ps := K05.p_points) KX G ?a22 ?l22 ?c22 ?k22 (fun _ _ _ _ _ _ us hl => match us, hl with | [_], _ => rfl))
      (Ur.fnd_mk (x := "twice_triangle") (st := K05.sTT) (ps := K05.p_tt) KX G ?a23 ?l23 ?c23 ?k23 (fun _ _ _ _ _ _ us hl => match us, hl with | [_, _, _], _ => rfl))
      (Ur.fnd_mk (x := "_left_bends") (st := K05.sLB) (ps := K05.p_spots) KX G ?a24 ?l24 ?c24 ?k24 (fun _ _ _ _ _ _ us hl => match us, hl with | [_], _ => rfl))
      (Ur.fnd_mk (x := "hull_of") (st := K05.sHull) (ps := K05.p_points) KX G ?a25 ?l25 ?c25 ?k25 (fun _ _ _ _ _ _ us hl => match us, hl with | [_], _ => rfl))
      (Ur.fnd_mk (x := "_law_sorted") (st := K05.sLSorted) (ps := K05.p_lspots) KX G ?a26 ?l26 ?c26 ?k26 (fun _ _ _ _ _ _ us hl => match us, hl with | [_], _ => rfl))
      (Ur.fnd_mk (x := "_law_hull") (st := K05.sLHull) (ps := K05.p_lspots) KX G ?a27 ?l27 ?c27 ?k27 (fun _ _ _ _ _ _ us hl => match us, hl with | [_], _ => rfl))
      (Ur.fnd_mk (x := "_law_middle") (st := K05.sLMiddle) (ps := K05.p_lspots) KX G ?a28 ?l28 ?c28 ?k28 (fun _ _ _ _ _ _ us hl => match us, hl with | [_], _ => rfl))
      (Ur.fnd_mk (x := "_law_plate") (st := K05.sLPlate) (ps := K05.p_lurn) KX G ?a29 ?l29 ?c29 ?k29 (fun _ _ _ _ _ _ us hl => match us, hl with | [_], _ => rfl))
      (Ur.fnd_mk (x := "_law_next") (st := K05.sLNext) (ps := K05.p_pk) KX G ?a30 ?l30 ?c30 ?k30 (fun _ _ _ _ _ _ us hl => match us, hl with | [_, _], _ => rfl))
      (Ur.fnd_mk (x := "_law_edge") (st := K05.sLEdge) (ps := K05.p_pk) KX G ?a31 ?l31 ?c31 ?k31 (fun _ _ _ _ _ _ us hl => match us, hl with | [_, _], _ => rfl))
      (Ur.fnd_mk (x := "_law_sorted") (st := K05.sLSorted) (ps := K05.p_lspots) KX G ?a32 ?l32 ?c32 ?k32 (fun _ _ _ _ _ _ us hl => match us, hl with | [_], _ => rfl))
      (Ur.fnd_mk (x := "_law_hull") (st := K05.sLHull) (ps := K05.p_lspots) KX G ?a33 ?l33 ?c33 ?k33 (fun _ _ _ _ _ _ us hl => match us, hl with | [_], _ => rfl))
      (Ur.fnd_mk (x := "_law_is_whole") (st := K05.sLWhole) (ps := K05.n_law_is_whole) KX G ?a34 ?l34 ?c34 ?k34 (fun _ _ _ _ _ _ us hl => match us, hl with | [_], _ => rfl))
      (Ur.fnd_mk (x := "_law_are_whole") (st := K05.sAre) (ps := K05.p_law_are_whole) KX G ?a35 ?l35 ?c35 ?k35 (fun _ _ _ _ _ _ us hl => match us, hl with | [_, _], _ => rfl))
      (Ur.fnd_mk (x := "_law_is_spot") (st := K05.sIsSpot) (ps := K05.n_lthg) KX G ?a36 ?l36 ?c36 ?k36 (fun _ _ _ _ _ _ us hl => match us, hl with | [_], _ => rfl))
      (Ur.fnd_mk (x := "polygon_fits") (st := K05.sPolyF) (ps := K05.n_value) KX G ?a37 ?l37 ?c37 ?k37 (fun _ _ _ _ _ _ us hl => match us, hl with | [_], _ => rfl))
      (Ur.fnd_mk (x := "section_fits") (st := K05.sSecF) (ps := K05.n_value) KX G ?a38 ?l38 ?c38 ?k38 (fun _ _ _ _ _ _ us hl => match us, hl with | [_], _ => rfl))
      (Ur.fndR_mk (x := "is_section") (st := K05.sIsSec) (ps := K05.n_value) KX G ?a39 ?l39 ?c39 ?k39 (fun _ _ _ _ _ _ us hl => match us, hl with | [_], _ => rfl) (fun _ _ _ _ _ _ ws hl => match ws, hl with | [_], _ => rfl))
      (Ur.fndR_mk (x := "is_polygon") (st := K05.sIsPol) (ps := K05.n_value) KX G ?a40 ?l40 ?c40 ?k40 (fun _ _ _ _ _ _ us hl => match us, hl with | [_], _ => rfl) (fun _ _ _ _ _ _ ws hl => match ws, hl with | [_], _ => rfl))
      (Ur.fnd_mk (x := "_law_is_shape") (st := K05.sShape) (ps := K05.p_shape) KX G ?a41 ?l41 ?c41 ?k41 (fun _ _ _ _ _ _ us hl => match us, hl with | [_], _ => rfl))
      (Ur.fnd_mk (x := "_law_odd") (st := K05.sOdd) (ps := K05.p_odd) KX G ?a42 ?l42 ?c42 ?k42 (fun _ _ _ _ _ _ us hl => match us, hl with | [_, _], _ => rfl))
      (Ur.fnd_mk (x := "_law_bent") (st := K05.sBent) (ps := K05.p_bent) KX G ?a43 ?l43 ?c43 ?k43 (fun _ _ _ _ _ _ us hl => match us, hl with | [_, _], _ => rfl))
      (Ur.fnd_mk (x := "_law_right") (st := K05.sRight) (ps := K05.p_law_right) KX G ?a44 ?l44 ?c44 ?k44 (fun _ _ _ _ _ _ us hl => match us, hl with | [_], _ => rfl))
      ?a ?l ?c ?k
    (case a0 => k_is); (case l0 => k_is); (case c0 => k_is); (case k0 => k_is)
    (case a1 => k_is); (case l1 => k_is);
          (case c1 => k_is); (case k1 => k_is)
    (case a2 => k_is); (case l2 => k_is);
          (case c2 => k_is); (case k2 => k_is)
    (case a3 => k_is); (case l3 => k_is);
          (case c3 => k_is); (case k3 => k_is)
    (case a4 => k_is); (case l4 => k_is);
          (case c4 => k_is); (case k4 => k_is)
    (case a5 => k_is); (case l5 => k_is); (case c5 => k_is); (case k5 => k_is)
    (case a6 => k_is); (case l6 => k_is); (case c6 => k_is); (case k6 => k_is)
    (case a7 => k_is); (case l7 => k_is); (case c7 => k_is); (case k7 => k_is)
    (case a8 => k_is); (case l8 => k_is); (case c8 => k_is); (case k8 => k_is)
    (case a9 => k_is); (case l9 => k_is); (case c9 => k_is); (case k9 => k_is)
    (case a10 => k_is); (case l10 => k_is); (case c10 => k_is); (case k10 => k_is)
    (case a11 => k_is); (case l11 => k_is); (case c11 => k_is); (case k11 => k_is)
    (case a12 => k_is); (case l12 => k_is); (case c12 => k_is); (case k12 => k_is)
    (case a13 => k_is); (case l13 => k_is); (case c13 => k_is); (case k13 => k_is)
    (case a14 => k_is); (case l14 => k_is); (case c14 => k_is); (case k14 => k_is)
    (case a15 => k_is); (case l15 => k_is); (case c15 => k_is); (case k15 => k_is)
    (case a16 => k_is); (case l16 => k_is); (case c16 => k_is); (case k16 => k_is)
    (case a17 => k_is); (case l17 => k_is); (case c17 => k_is); (case k17 => k_is)
    (case a18 => k_is); (case l18 => k_is); (case c18 => k_is); (case k18 => k_is)
    (case a19 => k_is); (case l19 => k_is); (case c19 => k_is); (case k19 => k_is)
    (case a20 => k_is); (case l20 => k_is); (case c20 => k_is); (case k20 => k_is)
    (case a21 => k_is); (case l21 => k_is); (case c21 => k_is); (case k21 => k_is)
    (case a22 => k_is); (case l22 => k_is); (case c22 => k_is); (case k22 => k_is)
    (case a23 => k_is); (case l23 => k_is); (case c23 => k_is); (case k23 => k_is)
    (case a24 => k_is); (case l24 => k_is); (case c24 => k_is); (case k24 => k_is)
    (case a25 => k_is); (case l25 => k_is); (case c25 => k_is); (case k25 => k_is)
    (case a26 => k_is); (case l26 => k_is); (case c26 => k_is); (case k26 => k_is)
    (case a27 => k_is); (case l27 => k_is); (case c27 => k_is); (case k27 => k_is)
    (case a28 => k_is); (case l28 => k_is); (case c28 => k_is); (case k28 => k_is)
    (case a29 => k_is); (case l29 => k_is); (case c29 => k_is); (case k29 => k_is)
    (case a30 => k_is); (case l30 => k_is); (case c30 => k_is); (case k30 => k_is)
    (case a31 => k_is); (case l31 => k_is); (case c31 => k_is); (case k31 => k_is)
    (case a32 => k_is); (case l32 => k_is); (case c32 => k_is); (case k32 => k_is)
    (case a33 => k_is); (case l33 => k_is); (case c33 => k_is); (case k33 => k_is)
    (case a34 => k_is); (case l34 => k_is); (case c34 => k_is); (case k34 => k_is)
    (case a35 => k_is); (case l35 => k_is); (case c35 => k_is); (case k35 => k_is)
    (case a36 => k_is); (case l36 => k_is); (case c36 => k_is); (case k36 => k_is)
    (case a37 => k_is); (case l37 => k_is); (case c37 => k_is); (case k37 => k_is)
    (case a38 => k_is); (case l38 => k_is); (case c38 => k_is); (case k38 => k_is)
    (case a39 => k_is); (case l39 => k_is); (case c39 => k_is); (case k39 => k_is)
    (case a40 => k_is); (case l40 => k_is); (case c40 => k_is); (case k40 => k_is)
    (case a41 => k_is); (case l41 => k_is); (case c41 => k_is); (case k41 => k_is)
    (case a42 => k_is); (case l42 => k_is); (case c42 => k_is); (case k42 => k_is)
    (case a43 => k_is); (case l43 => k_is); (case c43 => k_is); (case k43 => k_is)
    (case a44 => k_is); (case l44 => k_is); (case c44 => k_is); (case k44 => k_is)
    (case a => k_is); (case l => k_is); (case c => k_is); (case k => k_is)
#print axioms PySem.Challenge.cw_hullrests_k05_whole_sections_and_polygon_holds

