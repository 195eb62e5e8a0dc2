import PyProof.Rows.All
import Wide.All
import OpenK.AllK
import Wide.FinOn
import HandS.ForMost
import HandS.Style
import HandS.Zip
import HandS.Wide
import HandS.IsInst
import HandS.RaiseMore
import PyProof.ReprRoads
import PyProof.EqAt
import HandS.Ends
import HandS.Lambda
import HandS.EndBits
import KE.SortKeyHeap
import KE.SortData
import PyProof.Rows.SortShellAny
import PyProof.ListRange
import HandS.Sort
import HandS.SetFor
import HandS.Strs
import HandS.Dict
import HandS.DictComp
import KE.DataMinKey
import HandS.Remove
import HandS.NoneIn
import HandS.Conv
import PyProof.LongRange
import PyProof.CollectWalk
import KE.KDictList
import KE.KDictCopyH
import KE.KDictWalk
import HandS.Iter
import HandS.Small
import HandS.SortRule
import KE.KDictPairs
import KE.DataEq
import KE.GoesNew
import HandS.Rev
import KE.DatumOrd
import PySem.Challenge.RW_leastheads_k28_contradictions_returned
set_option Elab.async false
set_option linter.all false
set_option maxRecDepth 100000
namespace My
open PySem PySem.Spec PyProof.Rows L2

/-! powers of great numbers -/
def CPw (i j : Int) : Prop := 0 ≤ j ∧ j ≤ 1000 ∧ i.natAbs.log2 < 100000
theorem op_pw {X : Cx} : OpR X (binaryOp .Pow) (rI CPw fun i j => .int (i ^ j.toNat)) :=
  opI fun i j _ _ _ _ _ hc q => by
    obtain ⟨h0, h1, h2⟩ := hc
    refine pow_int h0 ?_ q
    have hb : Builtin.Int.intBits i ≤ i.natAbs.log2 + 1 := by
      unfold Builtin.Int.intBits
      split <;> omega
    have hb2 : (Builtin.Int.intBits i : Int) ≤ 100000 := by omega
    calc (Builtin.Int.intBits i : Int) * j ≤ 100000 * j := Int.mul_le_mul_of_nonneg_right hb2 h0
      _ ≤ 2 ^ 27 := by omega
theorem pw_ok {i j : Int} {b : Nat} (h0 : 0 ≤ j) (h1 : j ≤ 1000) (hb : i.natAbs < 2 ^ b) (hp : 0 < b) (hl : b ≤ 100000) : CPw i j := by
  have z := PySem.Flt.log2_lt_of hp hb
  exact ⟨h0, h1, by omega⟩
/-! repr of data -/
def rRep (K : PySem.W.Frag) : List V → Hp → VK → Prop := fun vs H Q => ∃ (a : Addr) (d : PyData), vs = [.ref a] ∧ Dp K H (.ref a) d ∧
  d.showable = true ∧ d.hasDict = false ∧ d.shown.length ≤ sizeLine ∧ d.depth ≤ 60 ∧ Q (.str d.shown) H
theorem cr_rep {X : Cx} (hg : X.A.guards = some []) (hu : X.A.units + 100 < cLine) : CallR X (.builtin "repr") (rRep X.K) := by
  intro pins s sg H xs us Q I rv h
  obtain ⟨a, d, rfl, hd, hs, hn, hz, hdp, q⟩ := h
  obtain ⟨u, rfl, ru⟩ := rv.one
  have ru' : u = Value.ref a := ru
  subst ru'
  obtain ⟨bs, r⟩ := Dp.reads I d _ _ hd (show RelV (.ref a) (Value.ref a) from rfl)
  refine repr_of_reads' (h₀ := s.heap) r hs (fun e => by rw [hn] at e; cases e) hg (by omega) (fun _ _ e => e) (fun h' u tk hk => ?_) hz
  exact ⟨.str d.shown, H, I.kept hk, ⟨u, rfl⟩, q⟩
end My
namespace My
open PySem PySem.Spec PyProof.Rows L2

/-! defs that are called where no repr runs: their promise knows it -/
structure FnG (P : Program) (w : World) (K : PySem.W.Frag) (mg : Str → Option Value) (base : Heap) (k : Nat) (f : Addr) (fd : FuncData)
    (ps : List Str) (sp : Sp) : Prop where
  len : ∀ vs H Q E, sp vs H Q E → vs.length = ps.length
  run : ∀ (A : Around) (outer : List Env) (s : Shared) (H : Hp) (args : Args) (us : List Value) (vs : List V) (Q : VK) (E : XK),
    Room k A → A.guards = some [] → Env0 P w K mg base A outer s H → BindsTo s fd args (ps.zip us) → Vals vs us → sp vs H Q E →
    codeAny (model P w) A (.call (.ref f) args) (CR CX0 outer P w H s Q E) s

theorem okG {P : Program} {w : World} {K : PySem.W.Frag} {mg : Str → Option Value} {base : Heap} {x qual : Str} {st : Stmt} {f : Addr}
    {fd : FuncData} {N ps : List Str} {k : Nat} {sp : Sp} (F : Fun K x qual st f fd) (S : FnScope N ps (defScope st))
    (len : ∀ vs H Q E, sp vs H Q E → vs.length = ps.length)
    (body : ∀ (cdv : Value) (A : Around) (outer : List Env) (s : Shared) (H : Hp) (vs : List V) (Q : VK) (E : XK), A.guards = some [] →
      Room k (A.deeper (envOfC qual (defScope st) s.heap.objs.size f cdv)) → sp vs H Q E →
      ∃ t, PSs (cxOf CX0 P w K mg base N qual (defScope st) f cdv A outer s H E).nox (defBody st) t ∧
        t { nx := fun _ H' => Q .non H', rt := Q } (start N vs) H) : FnG P w K mg base (k + 1) f fd ps sp := by
  obtain ⟨oc, od, kV, doc, pm, an, cdv, ct, osl, rfl, lk, hcd⟩ := F.ex
  refine ⟨len, ?_⟩
  intro A outer s H args us vs Q E room gu en bi rv want
  have hlen := len vs H Q E want
  have KI : K.In s.heap := en.mod.kin.keeps (fun b o e => (en.bs b o e).1)
  have NL : s.heap.NoLimit := en.mod.nolimit.keeps (fun b o e => (en.bs b o e).1)
  have kinds : ∀ y ∈ ps.zip us, (defScope st).names.lookup y.1 = some .local ∨
      ((defScope st).names.lookup y.1 = some .cell ∧ ((cellsFrom (s.heap.objs.size + 1) (defScope st).names []).lookup y.1).isSome = true) := by
    rintro ⟨n, v⟩ hy
    rcases S.par n (List.of_mem_zip hy).1 with z | z
    · exact Or.inl z
    · exact Or.inr ⟨z, PySem.W.cellsFrom_some _ _ _ (Or.inl z)⟩
  refine codeAny_call_function room.depth (KI _ _ lk) rfl S.co S.gen rfl (PySem.W.codeRec_of KI hcd) (bi _ _ _ _ ?_)
  refine wpAny_newFunctionEnv_cells S.kind kinds (fun env he s1 x1 => ?_)
  subst he
  refine ⟨NL.keeps x1.toInCall.keep, codeAny_func ?_⟩
  obtain ⟨t, ht, hq⟩ := body cdv A outer s H vs Q E gu (room.deeper _) want
  have J0 := inv_start (CX := CX0) (E := E) (qual := qual) S room.hd en hlen rv x1
  refine wpAny_mono (ht.nox.run [] s1 (start N vs) H _ J0 hq) ?_ (fun e s' z => z)
  intro fl s' z
  cases fl with
  | next =>
    obtain ⟨sg, H', J, q⟩ := z
    exact ⟨.non, H', J.os, J.bare, J.base, J.hok, rfl, q⟩
  | ret u =>
    obtain ⟨v, sg, H', J, r1, q⟩ := z
    exact ⟨v, H', J.os, J.bare, J.base, J.hok, r1, q⟩
  | brk => exact z.elim fun _ z => z.elim fun _ z => False.elim z.2
  | cont => exact z.elim fun _ z => z.elim fun _ z => False.elim z.2

section
variable {X : Cx} {k : Nat} {f : Addr} {fd : FuncData} {ps : List Str} {sp : Sp} {E : XK}
theorem pe_callG {x : Str} {p pos : Pos} {e : Expr} {es : List Expr} {t : TA} (F : FnG X.prog X.w X.K X.mg X.base k f fd ps sp) (room : Room k X.A)
    (gu : X.A.guards = some []) (gl : Gl X x) (hm : X.mg x = some (.ref f)) (kp : PySem.W.keepIn X.K (.ref f) = true) (bi : Binds X.K fd ps [])
    (pa : Passes CX0 X E) (ha : PA X (e :: es) t) (hdb : (x == ("__debug__" : Str)) = false := by decide)
    (he : starEach (e :: es) X.env = (false, eval e X.env) :: starEach es X.env := by rfl)
    (hpl : (backTo pos (starEach es X.env)).any (·.1) = false := by rfl) : PE X (.Call (.Name x p) (e :: es) [] pos) (tCall sp [] E t) := by
  refine ⟨fun pins s sg H Q I want => ?_⟩
  refine wpAny_Call_Name_kw (ld_glob I gl hm ?_ hdb)
  refine PySem.W.callWith_K (h₀ := X.base) I.ok.mod.kin kp (thn (ha.run pos pins s sg H _ I want) ?_) he hpl
  rintro us s1 ⟨vs, H1, I1, rv, q⟩
  refine ⟨I1.kIn, ?_⟩
  have q' : sp vs H1 Q E := by
    have z := q
    rw [List.append_nil] at z
    exact z
  have hl : (us ++ []).length = ps.length := by
    rw [List.append_nil, ← rv.length]
    exact F.len _ _ _ _ q'
  have bt := bi s1 us I1.kIn hl
  rw [List.append_nil] at bt
  refine wpAny_call (codeAny_mono (F.run X.A X.stack s1 H1 ⟨us, []⟩ us vs Q E room gu I1.env0 bt rv q') ?_)
  intro r s' z
  cases r with
  | error e => exact pa pins sg H1 s1 e s' I1 z
  | ok fl =>
    cases fl with
    | ret u => exact I1.after z
    | next => exact False.elim z
    | brk => exact False.elim z
    | cont => exact False.elim z
end

/-! the law's own end over such a promise -/
theorem endG {P : Program} {w : World} {K : PySem.W.Frag} {mg mb : Str → Option Value} {k : Nat} {fa a : Addr} {fd : FuncData} {x : Str} {sp : Sp}
    {s1 : Shared} {us : List Value} {ns : List Int} (KX : K.In s1.heap) (hns : s1.heap.Ns mainGlobals mg) (hb : s1.heap.Ns builtinsNs mb)
    (hbb : ∀ x : Str, x ≠ "__name__" → mb x = bootBuiltins x) (hlim : s1.heap.NoLimit) (hg : s1.gens = #[])
    (ha : s1.heap.get? a = some { cls := .type "list", data := .seq us.toArray }) (hi : IntsAre us ns) (hl : ns.length ≤ sizeLine)
    (room : Room k callerA) (F : ∀ base : Heap, K.In base → base.Ns mainGlobals mg → FnG P w K mg base k fa fd [x] sp)
    (bi : ∀ (s : Shared) (u : Value), BindsTo s fd ⟨[u], []⟩ [(x, u)])
    (want : ∀ H : Hp, Only H → SqL K H a (ns.map V.int) → sp [.ref a] H (fun v _ => v = .bl true) fun _ _ _ => False) :
    codeAny (model P w) callerA (.call (.ref fa) ⟨[.ref a], []⟩)
      (fun r s' => r = .ok (.ret (.bool true)) ∧ OldK s1.heap s'.heap ∧ s'.os = s1.os ∧ AllBare s'.gens) s1 := by
  have rv := vals_ints hi
  have main : ∀ H : Hp, Only H → SqL K H a (ns.map V.int) → HOk P w H s1.heap → (∀ b, H b ≠ none → b = a) → (H a ≠ none → K.lookup a = none) →
      codeAny (model P w) callerA (.call (.ref fa) ⟨[.ref a], []⟩)
        (fun r s' => r = .ok (.ret (.bool true)) ∧ OldK s1.heap s'.heap ∧ s'.os = s1.os ∧ AllBare s'.gens) s1 := by
    intro H only hS hok hA hK
    have dictFree : ∀ {b : Addr} {o : Obj} {es : Array DictEntry} {ep : Nat}, s1.heap.get? b = some o → o.data = .dict es ep → H b = none := by
      intro b o es ep e d
      by_cases z : H b = none
      · exact z
      · have e' := hA b z
        rw [e', ha] at e
        cases e
        cases (show Data.seq us.toArray _ = Data.dict es ep from d)
    have over : ∀ {b : Addr} {m : Str → Option Value}, s1.heap.Ns b m → (hidT s1.heap H).Ns b m := by
      rintro b m ⟨o, es, ep, e, d, r⟩
      exact ⟨o, es, ep, hidT_get e (dictFree e d), d, r⟩
    have KB : K.In (hidT s1.heap H) := by
      intro b o e
      refine hidT_get (KX b o e) ?_
      by_cases z : H b = none
      · exact z
      · have e' := hA b z
        rw [e'] at z e
        rw [hK z] at e
        cases e
    have M : Mod K mg (hidT s1.heap H) := by
      obtain ⟨mc, l1, l2⟩ := hlim
      exact ⟨KB, over hns, ⟨mb, over hb, hbb⟩, ⟨mc, over l1, l2⟩⟩
    have E0' : Env0 P w K mg (hidT s1.heap H) callerA [] s1 H :=
      ⟨rfl, M, fun b o e => of_hidT e, Nat.le_of_eq (hidT_size _ _), trivial, (fun b hb => nomatch (show b ∈ ([] : List Addr) from hb)), hok, .of_eq hg⟩
    refine codeAny_mono ((F _ KB (over hns)).run callerA [] s1 H ⟨[.ref a], []⟩ [.ref a] [.ref a] _ _ room rfl E0' (bi s1 (.ref a)) (.cons rfl .nil) (want H only hS)) ?_
    intro r s' z
    cases r with
    | error e => exact False.elim z
    | ok fl =>
      cases fl with
      | next => exact False.elim z
      | brk => exact False.elim z
      | cont => exact False.elim z
      | ret u =>
        obtain ⟨v, H', os, bare, un, hok2, r1, q⟩ := z
        have q1 : v = .bl true := q
        subst q1
        have q2 : u = Value.bool true := r1
        subst q2
        refine ⟨rfl, OldK.of_keep ?_, os, bare⟩
        intro b o e
        rcases only b with n | ⟨ob, xs, n⟩
        · exact un.keep b o e n (fun y => nomatch (show b ∈ ([] : List Addr) from y)) (fun y => nomatch y)
        · obtain ⟨e1, _⟩ := hok b _ n
          obtain ⟨e2, _⟩ := hok2 b _ (un.frzs b ob _ n)
          rw [e] at e1
          cases e1
          exact e2
  cases hk : K.lookup a with
  | some o =>
    have e := KX a o hk
    rw [ha] at e
    cases e
    refine main (fun _ => none) (fun _ => Or.inl rfl) (Or.inr ⟨_, us.toArray, _, hk, rfl, rfl, rfl, ?_, ?_⟩) ?_ ?_ ?_
    · rw [List.size_toArray, hi.length]; exact hl
    · simpa using rv
    · intro b u z; cases z
    · intro b z; exact absurd rfl z
    · intro z; exact absurd rfl z
  | none =>
    have at_a : (fun b => if b = a then some (HO.frz { cls := .type "list", data := .seq us.toArray } (.lst (ns.map V.int))) else none : Hp) a
      = some (HO.frz { cls := .type "list", data := .seq us.toArray } (.lst (ns.map V.int))) := if_pos rfl
    have off : ∀ b, b ≠ a → (fun b => if b = a then some (HO.frz { cls := .type "list", data := .seq us.toArray } (.lst (ns.map V.int))) else none : Hp) b = none :=
      fun b z => if_neg z
    refine main (fun b => if b = a then some (HO.frz { cls := .type "list", data := .seq us.toArray } (.lst (ns.map V.int))) else none) ?_ (Or.inl (Or.inr ⟨_, at_a⟩)) ?_ ?_ (fun _ => hk)
    · intro b
      by_cases z : b = a
      · subst z; exact Or.inr ⟨_, _, at_a⟩
      · exact Or.inl (off b z)
    · intro b u z
      by_cases y : b = a
      · subst y
        rw [at_a] at z
        cases z
        exact ⟨ha, by rw [List.length_map]; exact hl, us, _, rv, ha⟩
      · rw [off b y] at z; cases z
    · intro b z
      by_cases y : b = a
      · exact y
      · exact absurd (off b y) z

theorem walkG {l : PySem.W.OpenLaw} {n k : Nat} {q : Program} {loose : List Str} {XP : (Str → Option Value) → Heap → Prop} {YP : World → Heap → Prop}
    {d : DefRec} {K : Params → PySem.W.Frag} {sp : World → Sp} {x : Str} (hn : l.most = some n) (hn2 : n ≤ sizeLine) (hdf : d.params.defaults = [])
    (room : Room k callerA) (hY : ∀ (w : World) (h : Heap), YP w h → (K w.params).In h)
    (F : ∀ (w : World) (mg : Str → Option Value) (fa : Addr) (h : Heap), (K w.params).In h → h.Ns mainGlobals mg → mg d.name = some (.ref fa) →
      ∃ fd : FuncData, (∀ (s : Shared) (u : Value), BindsTo s fd ⟨[u], []⟩ [(x, u)]) ∧
        ∀ base : Heap, (K w.params).In base → base.Ns mainGlobals mg → FnG l.prog w (K w.params) mg base k fa fd [x] (sp w))
    (want : ∀ (w : World) (H : Hp) (a : Addr) (ns : List Int), ns.length ≤ n → Only H → SqL (K w.params) H a (ns.map V.int) →
      sp w [.ref a] H (fun v _ => v = .bl true) fun _ _ _ => False) :
    PySem.W.WalkO q loose XP YP l.row.toRowW d [] (fun f vs => PySem.call f vs) := by
  refine Att.attach_call hn hdf ?_
  intro w s0 s1 mg mb fa o pm cd doc a us ns G Y ho hd hcd hmg hobj hints hlen hg
  have KX := hY w _ Y
  obtain ⟨fd, b1, b2⟩ := F w mg fa _ KX G.T.g hmg
  exact endG KX G.T.g G.T.b G.T.builtins G.T.nolimit hg hobj hints (Nat.le_trans hlen hn2) room b2 b1 (fun H only hS => want w H a ns hlen only hS)
end My
namespace My
open PySem PySem.Spec PyProof.Rows L2

/-! l[a:c] = another list -/
def gSlc (to : TE) (tl th : TO) : TG := fun v sg H Q => to sg H fun o H1 => tl sg H1 fun lo H2 => th sg H2 fun hi H3 =>
  ∃ (l b : Addr) (xs ys : List V) (a c : Int), o = .ref l ∧ v = .ref b ∧ lo = some a ∧ hi = some c ∧ H3 l = some (.lst xs) ∧ H3 b = some (.lst ys) ∧ l ≠ b ∧
    0 ≤ a ∧ a ≤ c ∧ c ≤ xs.length ∧ xs.length + ys.length ≤ sizeLine ∧ Q sg (upd H3 l (.lst (xs.take a.toNat ++ ys ++ xs.drop c.toNat)))
theorem pg_slc {X : Cx} {o : Expr} {lo hi : Option Expr} {p2 pos : Pos} {to : TE} {tl th : TO} (ho : PE X o to) (hl : PO X lo tl) (hh : PO X hi th)
    (ha : ∀ v, assign (.Subscript o (.Slice lo hi none p2) pos) X.env v = (do
      let ov ← holding [v] (eval o X.env)
      let iv ← holding [v, ov] (eval (.Slice lo hi none p2) X.env)
      standAt pos
      holding [v, ov, iv] (setItem ov iv v)
      release [iv, v, ov] []) := by intro _; rfl) : PG X (.Subscript o (.Slice lo hi none p2) pos) (gSlc to tl th) := by
  refine ⟨fun pins s sg H v u Q I r want => ?_⟩
  rw [ha]
  refine wpAny_bind (wpAny_holding (thn (ho.run pins s sg H _ I want) ?_))
  rintro ov s1 ⟨x, H1, I1, r1, q1⟩
  refine wpAny_bind (wpAny_holding (wpAny_Slice (thn (hl.run pins s1 sg H1 _ I1 q1) ?_)))
  rintro vl s2 ⟨la, H2, I2, pl, q2⟩
  refine thn (hh.run pins s2 sg H2 _ I2 q2) ?_
  rintro vu s3 ⟨ua, H3, I3, pu, q3⟩
  rw [evalPart_none]
  refine wpAny_pure ?_
  have I4 : Inv X pins sg H3 { s3 with heap := s3.heap.push { cls := .type "slice", data := .fields #[vl, vu, .none] } } :=
    I3.kept (t' := s3.toks) (fun b ob q => Heap.get?_push_of_some _ q)
  obtain ⟨l, b, xs, ys, a, c, rfl, rfl, rfl, rfl, hx, hy, ne, h0, h1, h2, hz, q⟩ := q3
  have e1 : ov = Value.ref l := r1
  have e2 : u = Value.ref b := r
  subst e1 e2
  have ra : RelV (.int a) vl := by cases pl; exact ⟨_, rfl⟩
  have rc : RelV (.int c) vu := by cases pu; exact ⟨_, rfl⟩
  refine wpAny_bind (wpAny_standAt (wpAny_bind (wpAny_holding ?_)))
  refine set_slice I4 hx hy ne (Heap.IsSliceOf.new ..) ra rc h0 h1 h2 hz (fun s5 I5 => ?_)
  exact wpAny_release ⟨sg, _, I5, q⟩

/-! l.count(x) where the items and x are data -/
def rCnt (K : PySem.W.Frag) : V → List V → Hp → VK → Prop := fun x xs H Q => ∃ (a : Addr) (y : V) (d : PyData) (ds : List PyData), x = V.ref a ∧ xs = [y] ∧
  Dp K H (V.ref a) (.list ds) ∧ Dp K H y d ∧ SeqAt.shaped (.list ds) = true ∧ SeqAt.shaped d = true ∧ Q (.int (ds.countP (fun z => PyData.eqv z d) : Nat)) H
theorem mt_cnt {X : Cx} (hu : X.A.units + 65 < cLine) : MtR X "list.count" (rCnt X.K) := by
  intro pins s sg H x xs v us Q I rx rxs want
  obtain ⟨a, y, d, ds, rfl, rfl, hl, hy, sl, sd, q⟩ := want
  have e1 : v = Value.ref a := rx
  subst e1
  obtain ⟨uy, rfl, ry⟩ := rxs.one
  obtain ⟨bs, r1⟩ := Dp.reads I d y uy hy ry
  have lay : PyData.canLayAll0 ds = true := SeqAt.canLay_of_shaped sl
  cases hl with
  | lst hs hall =>
    obtain ⟨its, rv, ⟨⟨cls, dd, data, sls⟩, n, ho, hc, hdn, hdt⟩, hlen⟩ := I.list hs
    simp only at hc hdt
    subst hc hdt
    obtain ⟨as, r2⟩ := Dp.readsAll I ds _ its hall rv
    have mp : its.map (SeqAt.readOf s.heap) = ds := SeqAt.readsAll_map ds its as lay r2
    refine call_meets PySem.F.slot_list_count ⟨_, ho, rfl⟩ PySem.F.entry_list_count (PySem.F.args_list_count_2 _ _)
      (SeqAt.list_countAt a its.toArray n dd sls uy (fun u => PyData.eqv (SeqAt.readOf s.heap u) d))
      ⟨ho, SeqAt.items_eqAt (vs := its.toArray) (show ReadsAll s.heap its.toArray.toList ds as from r2) r1 lay (SeqAt.canLay_of_shaped sd) (room_in_shaped sd hu), ?_⟩
    refine ⟨.int (ds.countP (fun z => PyData.eqv z d) : Nat), H, I.tok _, ⟨s.toks, ?_⟩, q⟩
    rw [← mp, List.countP_map]
    rfl
end My
namespace My
open PySem PySem.Spec PyProof.Rows L2

/-! heaps -/
theorem same0 {H H' : Hp} {p : Addr} {o : HO} (sm : Same H H') (n : H p = none) : Same H (upd H' p o) := fun b u e => by
  rw [upd_ne (ne_of_none e n)]
  exact sm b u e
theorem sameN {H : Hp} {p : Addr} {o : HO} (n : H p = none) : Same H (upd H p o) := same0 (Same.refl H) n

/-- at the addresses qs stand lists with the rows bs -/
structure Rws (H : Hp) (qs : List Addr) (bs : List (List V)) : Prop where
  len : qs.length = bs.length
  nd : qs.Nodup
  get : ∀ (j : Nat) (q : Addr) (b : List V), qs[j]? = some q → bs[j]? = some b → H q = some (.lst b)
theorem Rws.nil {H : Hp} : Rws H [] [] := ⟨rfl, List.nodup_nil, fun j q b e => by simp at e⟩
theorem Rws.off {H : Hp} {qs : List Addr} {bs : List (List V)} (R : Rws H qs bs) {p : Addr} {o : HO} (n : p ∉ qs) : Rws (upd H p o) qs bs :=
  ⟨R.len, R.nd, fun j q b e1 e2 => by
    have ne : q ≠ p := fun z => n (by rw [← z]; exact List.mem_of_getElem? e1)
    rw [upd_ne ne]
    exact R.get j q b e1 e2⟩
theorem Rws.same {H H' : Hp} {qs : List Addr} {bs : List (List V)} (R : Rws H qs bs) (s : Same H H') : Rws H' qs bs :=
  ⟨R.len, R.nd, fun j q b e1 e2 => s _ _ (R.get j q b e1 e2)⟩
theorem Rws.at' {H : Hp} {qs : List Addr} {bs : List (List V)} (R : Rws H qs bs) {q : Addr} (h : q ∈ qs) : ∃ (j : Nat) (b : List V), qs[j]? = some q ∧ bs[j]? = some b ∧ H q = some (.lst b) := by
  obtain ⟨j, hj⟩ := List.mem_iff_getElem?.mp h
  have hl : j < bs.length := by rw [← R.len]; exact (List.getElem?_eq_some_iff.mp hj).1
  exact ⟨j, bs[j], hj, List.getElem?_eq_getElem hl, R.get _ _ _ hj (List.getElem?_eq_getElem hl)⟩
theorem Rws.there {H : Hp} {qs : List Addr} {bs : List (List V)} (R : Rws H qs bs) {q : Addr} (h : q ∈ qs) : H q ≠ none := by
  obtain ⟨j, b, _, _, e⟩ := R.at' h
  rw [e]; exact fun z => nomatch z
theorem Rws.push {H : Hp} {qs : List Addr} {bs : List (List V)} (R : Rws H qs bs) {p : Addr} {b : List V} (n : H p = none) : Rws (upd H p (.lst b)) (qs ++ [p]) (bs ++ [b]) := by
  have np : p ∉ qs := fun h => R.there h n
  refine ⟨by rw [List.length_append, List.length_append, R.len]; rfl, ?_, ?_⟩
  · refine List.nodup_append.mpr ⟨R.nd, by simp, ?_⟩
    intro x hx y hy e
    have e2 : y = p := by simpa using hy
    exact np (e2 ▸ e ▸ hx)
  · intro j q c e1 e2
    rcases Nat.lt_or_ge j qs.length with z | z
    · rw [List.getElem?_append_left z] at e1
      rw [List.getElem?_append_left (R.len ▸ z)] at e2
      exact (R.off np).get j q c e1 e2
    · rw [List.getElem?_append_right z] at e1
      rw [List.getElem?_append_right (R.len ▸ z), ← R.len] at e2
      cases hk : j - qs.length with
      | zero =>
        rw [hk] at e1 e2
        cases e1
        cases e2
        exact upd_same
      | succ m =>
        rw [hk] at e1
        simp at e1
theorem Rws.put {H : Hp} {qs : List Addr} {bs : List (List V)} (R : Rws H qs bs) {j : Nat} {q : Addr} {b : List V} (e : qs[j]? = some q) : Rws (upd H q (.lst b)) qs (bs.set j b) := by
  refine ⟨by rw [List.length_set]; exact R.len, R.nd, ?_⟩
  intro i r c e1 e2
  by_cases z : i = j
  · subst z
    rw [e] at e1
    cases e1
    have hl : i < bs.length := by rw [← R.len]; exact (List.getElem?_eq_some_iff.mp e).1
    rw [List.getElem?_set_self hl] at e2
    cases e2
    exact upd_same
  · rw [List.getElem?_set_ne (fun y => z y.symm)] at e2
    have ne : r ≠ q := fun y => z (nd_ix R.nd (y ▸ e1) e)
    rw [upd_ne ne]
    exact R.get i r c e1 e2

/-! blocks -/
def put (bs : List (List Int)) (n : Int) : List (List Int) :=
  match bs.getLast? with
  | none => [[n]]
  | some l => if l.headD 0 < n then bs ++ [[n]] else bs.dropLast ++ [l ++ [n]]
def cut (ns : List Int) : List (List Int) := ns.foldl put []
theorem cut_snoc (ns : List Int) (n : Int) : cut (ns ++ [n]) = put (cut ns) n := by
  unfold cut
  rw [List.foldl_append]
  rfl
theorem put_nil (n : Int) : put [] n = [[n]] := rfl
theorem put_snoc (ini : List (List Int)) (l : List Int) (n : Int) : put (ini ++ [l]) n = if l.headD 0 < n then (ini ++ [l]) ++ [[n]] else ini ++ [l ++ [n]] := by
  unfold put
  rw [List.getLast?_concat, List.dropLast_concat]
/-- what holds of the blocks of ns -/
structure Good (ns : List Int) (bs : List (List Int)) : Prop where
  flat : bs.flatten = ns
  ne : ∀ b ∈ bs, b ≠ []
  last : bs = [] ∨ ∃ ini x r, bs = ini ++ [x :: r] ∧ x ∈ ns ∧ ∀ y ∈ ns, y ≤ x
theorem good_step {ns : List Int} {bs : List (List Int)} (G : Good ns bs) (n : Int) : Good (ns ++ [n]) (put bs n) := by
  rcases G.last with e | ⟨ini, x, r, e, hx, hm⟩
  · subst e
    have e2 : ns = [] := by rw [← G.flat]; rfl
    subst e2
    exact ⟨rfl, by simp [put_nil], Or.inr ⟨[], n, [], rfl, by simp, by simp⟩⟩
  · subst e
    rw [put_snoc]
    by_cases h : (x :: r).headD 0 < n
    · rw [if_pos h]
      have h' : x < n := h
      refine ⟨by rw [List.flatten_append, G.flat]; rfl, ?_, Or.inr ⟨ini ++ [x :: r], n, [], rfl, by simp, ?_⟩⟩
      · intro b hb
        rcases List.mem_append.mp hb with z | z
        · exact G.ne b z
        · have : b = [n] := by simpa using z
          rw [this]; simp
      · intro y hy
        rcases List.mem_append.mp hy with z | z
        · have := hm y z; omega
        · have : y = n := by simpa using z
          omega
    · rw [if_neg h]
      have h' : ¬ x < n := h
      refine ⟨?_, ?_, Or.inr ⟨ini, x, r ++ [n], rfl, List.mem_append_left _ hx, ?_⟩⟩
      · have f := G.flat
        rw [List.flatten_append] at f ⊢
        rw [← f]
        simp
      · intro b hb
        rcases List.mem_append.mp hb with z | z
        · exact G.ne b (List.mem_append_left _ z)
        · have : b = x :: r ++ [n] := by simpa using z
          rw [this]; simp
      · intro y hy
        rcases List.mem_append.mp hy with z | z
        · exact hm y z
        · have : y = n := by simpa using z
          omega
theorem good_from : ∀ (rest pre : List Int), Good pre (cut pre) → Good (pre ++ rest) (cut (pre ++ rest))
  | [], pre, h => by rw [List.append_nil]; exact h
  | n :: rest, pre, h => by
    have h2 := good_step h n
    rw [← cut_snoc] at h2
    have h3 := good_from rest (pre ++ [n]) h2
    rw [List.append_assoc] at h3
    exact h3
theorem good_cut (ns : List Int) : Good ns (cut ns) := good_from ns [] ⟨rfl, by simp [cut], Or.inl rfl⟩
theorem cut_take {ns : List Int} {i : Nat} {n : Int} (h : ns[i]? = some n) : cut (ns.take (i + 1)) = put (cut (ns.take i)) n := by
  rw [List.take_add_one, h]
  exact cut_snoc _ _
theorem flat_len : ∀ {bs : List (List Int)}, (∀ b ∈ bs, b ≠ []) → bs.length ≤ bs.flatten.length
  | [], _ => Nat.zero_le _
  | b :: bs, h => by
    have ih := flat_len (bs := bs) fun c hc => h c (List.mem_cons_of_mem _ hc)
    have hb := h b (List.mem_cons_self ..)
    cases b with
    | nil => exact absurd rfl hb
    | cons x r =>
      rw [List.flatten_cons, List.length_append, List.length_cons, List.length_cons]
      omega
theorem flat_mem_len : ∀ {bs : List (List Int)} {b : List Int}, b ∈ bs → b.length ≤ bs.flatten.length
  | c :: bs, b, h => by
    rw [List.flatten_cons, List.length_append]
    rcases List.mem_cons.mp h with e | e
    · rw [e]; omega
    · have := flat_mem_len (bs := bs) e
      omega
theorem Good.len {ns : List Int} {bs : List (List Int)} (G : Good ns bs) : bs.length ≤ ns.length := by
  have := flat_len G.ne
  rw [G.flat] at this
  exact this
theorem Good.rowlen {ns : List Int} {bs : List (List Int)} (G : Good ns bs) {b : List Int} (h : b ∈ bs) : b.length ≤ ns.length := by
  have := flat_mem_len h
  rw [G.flat] at this
  exact this
/-- the law's own question: is a number before it greater? -/
theorem cut_ask {ns : List Int} {n : Int} (nd : (ns ++ [n]).Nodup) : (ns.filter fun o => decide (n < o)) = [] ↔ (cut ns = [] ∨ ∃ ini x r, cut ns = ini ++ [x :: r] ∧ x < n) := by
  have G := good_cut ns
  constructor
  · intro h
    rcases G.last with e | ⟨ini, x, r, e, hx, hm⟩
    · exact Or.inl e
    · refine Or.inr ⟨ini, x, r, e, ?_⟩
      have h1 := (List.filter_eq_nil_iff.mp h) x hx
      have h2 : ¬ n < x := fun z => h1 (decide_eq_true z)
      have h3 : x ≠ n := fun z => by
        have := (List.nodup_append.mp nd).2.2 x hx n (by simp)
        exact this z
      omega
  · intro h
    refine List.filter_eq_nil_iff.mpr ?_
    intro y hy
    rcases h with e | ⟨ini, x, r, e, hlt⟩
    · have : ns = [] := by rw [← G.flat, e]; rfl
      rw [this] at hy
      simp at hy
    · rcases G.last with e2 | ⟨ini2, x2, r2, e2, hx2, hm2⟩
      · rw [e2] at e
        simp at e
      · rw [e2] at e
        have e3 := (List.append_inj' e rfl).2
        have e4 : x2 = x := by simpa using (List.cons.inj (List.cons.inj e3).1).1
        have := hm2 y hy
        have : ¬ n < y := by omega
        simpa using this
end My
namespace My
open PySem PySem.Spec PyProof.Rows L2
theorem erase_perm {α : Type} : ∀ {l : List α} {k : Nat} {y : α}, l[k]? = some y → (y :: l.eraseIdx k).Perm l
  | [], k, y, h => by simp at h
  | x :: l, 0, y, h => by
    have e : x = y := Option.some.inj h
    subst e
    exact List.Perm.refl _
  | x :: l, k + 1, y, h => by
    have ih := erase_perm (l := l) (k := k) (y := y) h
    exact (List.Perm.swap x y _).trans (List.Perm.cons x ih)
theorem erase_map {α β : Type} (g : α → β) : ∀ (l : List α) (k : Nat), (l.map g).eraseIdx k = (l.eraseIdx k).map g
  | [], _ => rfl
  | _ :: _, 0 => rfl
  | x :: l, k + 1 => by
    show g x :: (l.map g).eraseIdx k = g x :: (l.eraseIdx k).map g
    rw [erase_map g l k]
/-- two neighbours turned -/
def swp (fs : List Int) (t : Nat) : List Int := fs.take t ++ ((fs.drop t).take 2).reverse ++ fs.drop (t + 2)
theorem swp_perm (fs : List Int) (t : Nat) : (swp fs t).Perm fs := by
  unfold swp
  have e : fs = fs.take t ++ ((fs.drop t).take 2 ++ fs.drop (t + 2)) := by
    have h1 : (fs.drop t).take 2 ++ (fs.drop t).drop 2 = fs.drop t := List.take_append_drop ..
    rw [List.drop_drop] at h1
    rw [show t + 2 = t + 2 from rfl, h1, List.take_append_drop]
  rw [List.append_assoc]
  refine List.Perm.trans ?_ (List.Perm.of_eq e.symm)
  exact List.Perm.append_left _ (List.Perm.append_right _ (List.reverse_perm _))
theorem cut_two {fs : List Int} {t : Nat} (h : t + 2 ≤ fs.length) : cutV (fs.map V.int) (some (t : Int)) (some ((t : Int) + 2)) = ((fs.drop t).take 2).map V.int := by
  unfold cutV
  have e : ((t : Int) + 2) = ((t + 2 : Nat) : Int) := rfl
  rw [e, HT.sIx_nat, HT.sIx_nat, List.length_map]
  have h1 : min t fs.length = t := Nat.min_eq_left (by omega)
  have h2 : min (t + 2) fs.length = t + 2 := Nat.min_eq_left h
  rw [h1, h2, Nat.add_sub_cancel_left, List.map_take, List.map_drop]
theorem swp_vals {fs : List Int} {t : Nat} (h : t + 2 ≤ fs.length) :
    (fs.map V.int).take (t : Int).toNat ++ (((fs.drop t).take 2).map V.int).reverse ++ (fs.map V.int).drop ((t : Int) + 2).toNat = (swp fs t).map V.int := by
  have e1 : (t : Int).toNat = t := Int.toNat_natCast t
  have e2 : ((t : Int) + 2).toNat = t + 2 := by omega
  rw [e1, e2]
  unfold swp
  simp only [List.map_append, List.map_take, List.map_drop, List.map_reverse]
theorem pick4 (a b c d : Int) {v : Int} (h0 : 0 ≤ v) (h1 : v < 4) (p : Int → Prop) (ha : p a) (hb : p b) (hc : p c) (hd : p d) :
    ∃ g, atI [V.int a, V.int b, V.int c, V.int d] v = some (.int g) ∧ p g := by
  have hv : v = ((0 : Nat) : Int) ∨ v = ((1 : Nat) : Int) ∨ v = ((2 : Nat) : Int) ∨ v = ((3 : Nat) : Int) := by omega
  rcases hv with e | e | e | e
  · exact ⟨a, by rw [e]; exact atI_nat rfl, ha⟩
  · exact ⟨b, by rw [e]; exact atI_nat rfl, hb⟩
  · exact ⟨c, by rw [e]; exact atI_nat rfl, hc⟩
  · exact ⟨d, by rw [e]; exact atI_nat rfl, hd⟩
theorem pick3 (a b c : Int) {v : Int} (h0 : 0 ≤ v) (h1 : v < 3) (p : Int → Prop) (ha : p a) (hb : p b) (hc : p c) :
    ∃ g, atI [V.int a, V.int b, V.int c] v = some (.int g) ∧ p g := by
  have hv : v = ((0 : Nat) : Int) ∨ v = ((1 : Nat) : Int) ∨ v = ((2 : Nat) : Int) := by omega
  rcases hv with e | e | e
  · exact ⟨a, by rw [e]; exact atI_nat rfl, ha⟩
  · exact ⟨b, by rw [e]; exact atI_nat rfl, hb⟩
  · exact ⟨c, by rw [e]; exact atI_nat rfl, hc⟩
theorem asc_nodup {fs : List Int} (h : fs.Pairwise (· < ·)) : fs.Nodup := h.imp fun z => by omega
/-- all but what stands at D is as it was -/
def But (D : Addr) (H H' : Hp) : Prop := ∀ b o, b ≠ D → H b = some o → H' b = some o
theorem But.refl (D : Addr) (H : Hp) : But D H H := fun _ _ _ h => h
theorem But.trans {D : Addr} {H H1 H2 : Hp} (a : But D H H1) (b : But D H1 H2) : But D H H2 := fun c o n h => b c o n (a c o n h)
theorem But.of {D : Addr} {H H' : Hp} (s : Same H H') : But D H H' := fun b o _ h => s b o h
theorem But.updD {D : Addr} {H H' : Hp} {o : HO} (s : But D H H') : But D H (upd H' D o) := fun b u n e => by
  rw [upd_ne n]
  exact s b u n e
theorem But.updN {D p : Addr} {H H' : Hp} {o : HO} (s : But D H H') (n : H p = none) : But D H (upd H' p o) := fun b u nb e => by
  rw [upd_ne (ne_of_none e n)]
  exact s b u nb e
theorem But.free {D p : Addr} {H H' : Hp} (s : But D H H') (np : p ≠ D) (n : H' p = none) : H p = none := by
  cases e : H p with
  | none => rfl
  | some o =>
    rw [s p o np e] at n
    cases n
end My
namespace My
open PySem PySem.Spec PyProof.Rows L2
theorem put_new {pre : List Int} {n : Int} (h : cut pre = [] ∨ ∃ ini x r, cut pre = ini ++ [x :: r] ∧ x < n) : put (cut pre) n = cut pre ++ [[n]] := by
  rcases h with e | ⟨ini, x, r, e, l⟩
  · rw [e]; rfl
  · rw [e, put_snoc]
    exact if_pos l
theorem put_old {pre : List Int} {n : Int} (h : ¬ (cut pre = [] ∨ ∃ ini x r, cut pre = ini ++ [x :: r] ∧ x < n)) :
    ∃ ini x r, cut pre = ini ++ [x :: r] ∧ put (cut pre) n = ini ++ [(x :: r) ++ [n]] := by
  rcases (good_cut pre).last with e | ⟨ini, x, r, e, _, _⟩
  · exact absurd (Or.inl e) h
  · refine ⟨ini, x, r, e, ?_⟩
    rw [e, put_snoc]
    exact if_neg fun z => h (Or.inr ⟨ini, x, r, e, z⟩)
theorem cut_to {xs : List V} (j : Nat) : cutV xs none (some (j : Int)) = xs.take j := by
  unfold cutV
  rw [HT.sIx_nat, HT.sIx_none, List.drop_zero, Nat.sub_zero]
  rcases Nat.le_total j xs.length with h | h
  · rw [Nat.min_eq_left h]
  · rw [Nat.min_eq_right h, List.take_of_length_le (Nat.le_refl _), List.take_of_length_le h]

/-! data -/
def dI (ns : List Int) : PyData := .list (ns.map .int)
def dR (bs : List (List Int)) : PyData := .list (bs.map dI)
theorem dpAll_ints {K : PySem.W.Frag} {H : Hp} : ∀ ns : List Int, DpAll K H (ns.map V.int) (ns.map PyData.int)
  | [] => .nil
  | n :: ns => .cons (.int n) (dpAll_ints ns)
theorem dpI {K : PySem.W.Frag} {H : Hp} {a : Addr} {ns : List Int} (h : SqL K H a (ns.map V.int)) : Dp K H (.ref a) (dI ns) := .lst h (dpAll_ints ns)
theorem dpAll_rows {K : PySem.W.Frag} {H : Hp} : ∀ {qs : List Addr} {bs : List (List Int)}, qs.length = bs.length →
    (∀ (j : Nat) (q : Addr) (b : List Int), qs[j]? = some q → bs[j]? = some b → H q = some (.lst (b.map V.int))) → DpAll K H (qs.map V.ref) (bs.map dI)
  | [], [], _, _ => .nil
  | q :: qs, b :: bs, hl, h => .cons (dpI (SqL.of (h 0 q b rfl rfl))) (dpAll_rows (by simpa using hl) fun j q' b' e1 e2 => h (j + 1) q' b' e1 e2)
  | [], _ :: _, hl, _ => by cases hl
  | _ :: _, [], hl, _ => by cases hl
theorem dpR {K : PySem.W.Frag} {H : Hp} {p : Addr} {qs : List Addr} {bs : List (List Int)} (h : H p = some (.lst (qs.map V.ref))) (R : Rws H qs (bs.map fun b => b.map V.int)) : Dp K H (.ref p) (dR bs) := by
  refine .lst (SqL.of h) (dpAll_rows (by have := R.len; rwa [List.length_map] at this) ?_)
  intro j q b e1 e2
  exact R.get j q _ e1 (by rw [List.getElem?_map, e2]; rfl)
theorem lay_ints : ∀ ns : List Int, PyData.canLayAll0 (ns.map PyData.int) = true
  | [] => by simp [PyData.canLayAll0]
  | n :: ns => by simp [PyData.canLayAll0, PyData.canLay0, lay_ints ns]
theorem dep_ints : ∀ ns : List Int, PyData.depthAll (ns.map PyData.int) ≤ 1
  | [] => by simp [PyData.depthAll]
  | n :: ns => by
    have := dep_ints ns
    simp only [List.map_cons, PyData.depthAll, PyData.depth]
    omega
theorem dI_depth (ns : List Int) : (dI ns).depth ≤ 2 := by
  have := dep_ints ns
  unfold dI
  simp only [PyData.depth]
  omega
theorem dR_depthAll : ∀ bs : List (List Int), PyData.depthAll (bs.map dI) ≤ 2
  | [] => by simp [PyData.depthAll]
  | b :: bs => by
    have h1 := dR_depthAll bs
    have h2 := dI_depth b
    simp only [List.map_cons, PyData.depthAll]
    omega
theorem dR_depth (bs : List (List Int)) : (dR bs).depth ≤ 3 := by
  have := dR_depthAll bs
  unfold dR
  simp only [PyData.depth]
  omega
theorem shaped_I (ns : List Int) : SeqAt.shaped (dI ns) = true := by
  have h := dI_depth ns
  show ((dI ns).canLay0 && decide ((dI ns).depth ≤ 64)) = true
  rw [Bool.and_eq_true]
  refine ⟨?_, decide_eq_true (by omega)⟩
  unfold dI
  simp only [PyData.canLay0]
  exact lay_ints ns
theorem eqv_empty (ds : List PyData) : PyData.eqv (.list ds) (.list []) = ds.isEmpty := by
  cases ds with
  | nil => simp [PyData.eqv, PyData.eqvAll]
  | cons d r => simp [PyData.eqv, PyData.eqvAll]
/-- numbers whose text is short -/
def Sh (ns : List Int) : Prop := ∀ x ∈ ns, -(10 ^ 32) < x ∧ x < 10 ^ 32
theorem show_I : ∀ ns : List Int, Sh ns → PyData.showableAll (ns.map PyData.int) = true
  | [], _ => by simp [PyData.showableAll]
  | n :: ns, h => by
    have h1 := h n (List.mem_cons_self ..)
    have h2 := show_I ns fun x hx => h x (List.mem_cons_of_mem _ hx)
    have z := PySem.Flt.log2_lt_of (show 0 < 120 by decide) (show n.natAbs < 2 ^ 120 by omega)
    have h3 : n.natAbs.log2 < 1920 := by omega
    simp [PyData.showableAll, PyData.showable, h2, h3]
theorem nodict_I : ∀ ns : List Int, PyData.hasDictAll (ns.map PyData.int) = false
  | [] => by simp [PyData.hasDictAll]
  | n :: ns => by simp [PyData.hasDictAll, PyData.hasDict, nodict_I ns]
theorem show_R : ∀ bs : List (List Int), (∀ b ∈ bs, Sh b) → PyData.showableAll (bs.map dI) = true
  | [], _ => by simp [PyData.showableAll]
  | b :: bs, h => by
    have h1 := show_I b (h b (List.mem_cons_self ..))
    have h2 := show_R bs fun x hx => h x (List.mem_cons_of_mem _ hx)
    have h3 : (dI b).showable = true := by unfold dI; simp only [PyData.showable]; exact h1
    simp [PyData.showableAll, h2, h3]
theorem nodict_R : ∀ bs : List (List Int), PyData.hasDictAll (bs.map dI) = false
  | [] => by simp [PyData.hasDictAll]
  | b :: bs => by
    have h3 : (dI b).hasDict = false := by unfold dI; simp only [PyData.hasDict]; exact nodict_I b
    simp [PyData.hasDictAll, h3, nodict_R bs]
theorem int_len {i : Int} (h : -(10 ^ 32) < i ∧ i < 10 ^ 32) : (PyData.int i).shown.length ≤ 33 := by
  have e := PySem.int_text_length_le10 (a := i) (k := 32) (by decide) (by omega)
  rw [PyData.shown_int]
  show (Str.ofString (toString i)).length ≤ 33
  rw [PySem.ofString_length]
  exact e
theorem sumI : ∀ ns : List Int, Sh ns → ((PyData.shownAll (ns.map PyData.int)).map (·.length)).sum ≤ 33 * ns.length
  | [], _ => by simp [PyData.shownAll]
  | n :: ns, h => by
    have h1 := int_len (h n (List.mem_cons_self ..))
    have h2 := sumI ns fun x hx => h x (List.mem_cons_of_mem _ hx)
    simp only [List.map_cons, PyData.shownAll, List.sum_cons, List.length_cons]
    omega
theorem dI_len {ns : List Int} (h : Sh ns) : (dI ns).shown.length ≤ 35 * ns.length + 3 := by
  have h1 := listText_len_le (PyData.shownAll (ns.map PyData.int))
  have h2 := sumI ns h
  rw [PyData.shownAll_length, List.length_map] at h1
  unfold dI
  simp only [PyData.shown]
  omega
theorem sumR (m : Nat) : ∀ bs : List (List Int), (∀ b ∈ bs, Sh b ∧ b.length ≤ m) → ((PyData.shownAll (bs.map dI)).map (·.length)).sum ≤ (35 * m + 3) * bs.length
  | [], _ => by simp [PyData.shownAll]
  | b :: bs, h => by
    obtain ⟨h0, h0'⟩ := h b (List.mem_cons_self ..)
    have h1 := dI_len h0
    have h2 := sumR m bs fun x hx => h x (List.mem_cons_of_mem _ hx)
    simp only [List.map_cons, PyData.shownAll, List.sum_cons, List.length_cons, Nat.mul_add]
    omega
theorem dR_len {bs : List (List Int)} (h : ∀ b ∈ bs, Sh b ∧ b.length ≤ 300) (hl : bs.length ≤ 300) : (dR bs).shown.length ≤ sizeLine := by
  have h1 := listText_len_le (PyData.shownAll (bs.map dI))
  have h2 := sumR 300 bs h
  rw [PyData.shownAll_length, List.length_map] at h1
  have h3 : (35 * 300 + 3) * bs.length ≤ (35 * 300 + 3) * 300 := Nat.mul_le_mul_left _ hl
  have e : (dR bs).shown = listText (PyData.shownAll (bs.map dI)) := by unfold dR; simp only [PyData.shown]
  rw [e]
  unfold sizeLine
  omega
/-- what repr asks of them -/
theorem askI {ns : List Int} (h : Sh ns) (hl : ns.length ≤ 4000) : (dI ns).showable = true ∧ (dI ns).hasDict = false ∧ (dI ns).shown.length ≤ sizeLine ∧ (dI ns).depth ≤ 60 := by
  refine ⟨?_, ?_, ?_, ?_⟩
  · unfold dI; simp only [PyData.showable]; exact show_I ns h
  · unfold dI; simp only [PyData.hasDict]; exact nodict_I ns
  · have := dI_len h
    unfold sizeLine
    omega
  · have := dI_depth ns
    omega
theorem askR {bs : List (List Int)} (h : ∀ b ∈ bs, Sh b ∧ b.length ≤ 300) (hl : bs.length ≤ 300) : (dR bs).showable = true ∧ (dR bs).hasDict = false ∧ (dR bs).shown.length ≤ sizeLine ∧ (dR bs).depth ≤ 60 := by
  refine ⟨?_, ?_, dR_len h hl, ?_⟩
  · unfold dR; simp only [PyData.showable]; exact show_R bs fun b hb => (h b hb).1
  · unfold dR; simp only [PyData.hasDict]; exact nodict_R bs
  · have := dR_depth bs
    omega
theorem Good.sh {ns : List Int} {bs : List (List Int)} (G : Good ns bs) (h : Sh ns) (hl : ns.length ≤ 300) : ∀ b ∈ bs, Sh b ∧ b.length ≤ 300 := by
  intro b hb
  refine ⟨fun x hx => h x ?_, Nat.le_trans (G.rowlen hb) hl⟩
  rw [← G.flat]
  exact List.mem_flatten.mpr ⟨b, hb, hx⟩

/-! a loop over enumerate(a) -/
theorem for_en {K : PySem.W.Frag} {a : Addr} {xs : List V} {g : TG} {tb : TS} {D : Ends} {sg : L2.St} {H : Hp} (Pv : Nat → L2.St → Hp → Prop) (start : Pv 0 sg H)
    (stays : ∀ i sg H, i ≤ xs.length → Pv i sg H → SqL K H a xs)
    (turn : ∀ i x sg H T, xs[i]? = some x → Pv i sg H → H T = none → g (.ref T) sg (upd H T (.tup [.int (i : Nat), x])) fun sg2 H2 => tb { D with nx := Pv (i + 1), ct := Pv (i + 1), bk := D.nx } sg2 H2)
    (last : ∀ sg H, Pv xs.length sg H → D.nx sg H) :
    ∃ W : Nat → Nat → L2.St → Hp → Prop, (∃ m, W 0 m sg H) ∧ ∀ i m sg H, W i m sg H →
      ((Ite K a).stop i H ∧ D.nx sg H) ∨ ((Ite K a).go i H ∧ ∃ N : L2.St → Hp → Prop, (∀ s' H', N s' H' → ∃ m', m' < m ∧ W (i + 1) m' s' H') ∧
        ∀ x H', (Ite K a).yld i H x H' → g x sg H' fun sg2 H2 => tb { D with nx := N, ct := N, bk := D.nx } sg2 H2) := by
  refine ⟨fun i m s H => m = xs.length - i ∧ i ≤ xs.length ∧ Pv i s H, ⟨xs.length, rfl, Nat.zero_le _, start⟩, ?_⟩
  rintro i m s H ⟨em, le, p⟩
  have sq := stays i s H le p
  rcases Nat.lt_or_ge i xs.length with lt | ge
  · have at1 : xs[i]? = some xs[i] := List.getElem?_eq_getElem lt
    refine Or.inr ⟨⟨xs, xs[i], sq, at1⟩, Pv (i + 1), ?_, ?_⟩
    · intro s' H' p'
      exact ⟨xs.length - (i + 1), by omega, rfl, lt, p'⟩
    · rintro x H' ⟨T, y, e1, nT, e2, f⟩
      have ey := f xs sq
      subst e1 e2
      exact turn i y s H T ey p nT
  · have e : i = xs.length := by omega
    subst e
    exact Or.inl ⟨⟨xs, sq, Nat.le_refl _⟩, last s H p⟩
end My
namespace My
open PySem PySem.Spec PyProof.Rows L2 LamX

/-! the law's end where some defs hold a lambda: cs tells their code objects and the tables of these -/
theorem endGT {P : Program} {w : World} {K : PySem.W.Frag} {mg mb : Str → Option Value} {k : Nat} {fa a : Addr} {fd : FuncData} {x : Str} {sp : Sp}
    {s1 : Shared} {us : List Value} {ns : List Int} {cs : List (Addr × Addr)} (KX : K.In s1.heap) (hns : s1.heap.Ns mainGlobals mg) (hb : s1.heap.Ns builtinsNs mb)
    (hbb : ∀ x : Str, x ≠ "__name__" → mb x = bootBuiltins x) (hlim : s1.heap.NoLimit) (hg : s1.gens = #[])
    (hT : ∀ p ∈ cs, s1.heap.get? p.2 = some { cls := .none, data := .fields #[] }) (nT : ∀ p ∈ cs, K.lookup p.2 = none) (hC : ∀ p ∈ cs, PySem.W.CodeHd s1.heap p.1 p.2)
    (hbm : ∃ (bm : Addr) (ob : Obj), mg "__builtins__" = some (.ref bm) ∧ bm ≠ builtinsNs ∧ s1.heap.get? bm = some ob ∧ ob.cls = .type "module" ∧
      ob.dict = some builtinsNs ∧ ob.data = .plain)
    (ha : s1.heap.get? a = some { cls := .type "list", data := .seq us.toArray }) (hi : IntsAre us ns) (hl : ns.length ≤ sizeLine)
    (room : Room k callerA) (F : ∀ base : Heap, K.In base → base.Ns mainGlobals mg → (∀ p ∈ cs, TabB base mg p.1 p.2) → FnG P w K mg base k fa fd [x] sp)
    (bi : ∀ (s : Shared) (u : Value), BindsTo s fd ⟨[u], []⟩ [(x, u)])
    (want : ∀ H : Hp, (∀ p ∈ cs, H p.2 = some (.tbl #[])) → SqL K H a (ns.map V.int) → sp [.ref a] H (fun v _ => v = .bl true) fun _ _ _ => False) :
    codeAny (model P w) callerA (.call (.ref fa) ⟨[.ref a], []⟩)
      (fun r s' => r = .ok (.ret (.bool true)) ∧ OldK s1.heap s'.heap ∧ s'.os = s1.os ∧ AllBare s'.gens) s1 := by
  have rv := vals_ints hi
  have emp : ∀ b : Addr, b ∈ cs.map (·.2) → s1.heap.get? b = some { cls := .none, data := .fields #[] } := by
    intro b hb
    obtain ⟨p, hp, rfl⟩ := List.mem_map.mp hb
    exact hT p hp
  have aNot : a ∉ cs.map (·.2) := by
    intro z
    have y := emp a z
    rw [ha] at y
    cases (show Data.seq us.toArray _ = Data.fields #[] from congrArg Obj.data (Option.some.inj y))
  have main : ∀ H : Hp, (∀ p ∈ cs, H p.2 = some (.tbl #[])) → (∀ b, H b = none ∨ b ∈ cs.map (·.2) ∨ ∃ o xs, H b = some (.frz o (.lst xs))) → SqL K H a (ns.map V.int) →
      HOk P w H s1.heap → (∀ b, H b ≠ none → b = a ∨ b ∈ cs.map (·.2)) → (H a ≠ none → K.lookup a = none) →
      codeAny (model P w) callerA (.call (.ref fa) ⟨[.ref a], []⟩)
        (fun r s' => r = .ok (.ret (.bool true)) ∧ OldK s1.heap s'.heap ∧ s'.os = s1.os ∧ AllBare s'.gens) s1 := by
    intro H atT only hS hok hA hK
    have free : ∀ {b : Addr} {o : Obj}, s1.heap.get? b = some o → (∀ v n, o.data ≠ .seq v n) → o.data ≠ .fields #[] → H b = none := by
      intro b o e d1 d2
      by_cases z : H b = none
      · exact z
      · rcases hA b z with y | y
        · rw [y, ha] at e
          cases e
          exact absurd rfl (d1 _ _)
        · rw [emp b y] at e
          cases e
          exact absurd rfl d2
    have dictFree : ∀ {b : Addr} {o : Obj} {es : Array DictEntry} {ep : Nat}, s1.heap.get? b = some o → o.data = .dict es ep → H b = none := by
      intro b o es ep e d
      refine free e ?_ ?_
      · intro v n z; rw [d] at z; cases z
      · intro z; rw [d] at z; cases z
    have over : ∀ {b : Addr} {m : Str → Option Value}, s1.heap.Ns b m → (hidT s1.heap H).Ns b m := by
      rintro b m ⟨o, es, ep, e, d, r⟩
      exact ⟨o, es, ep, hidT_get e (dictFree e d), d, r⟩
    have KB : K.In (hidT s1.heap H) := by
      intro b o e
      refine hidT_get (KX b o e) ?_
      by_cases z : H b = none
      · exact z
      · rcases hA b z with y | y
        · rw [y] at z e
          rw [hK z] at e
          cases e
        · obtain ⟨p, hp, rfl⟩ := List.mem_map.mp y
          rw [nT p hp] at e
          cases e
    have M : L2.Mod K mg (hidT s1.heap H) := by
      obtain ⟨mc, l1, l2⟩ := hlim
      exact ⟨KB, over hns, ⟨mb, over hb, hbb⟩, ⟨mc, over l1, l2⟩⟩
    have TB : ∀ p ∈ cs, TabB (hidT s1.heap H) mg p.1 p.2 := by
      intro p hp
      have tp := hT p hp
      refine ⟨?_, ?_, ?_⟩
      · obtain ⟨o, vs, file, tf, flags, tg, inF, text, tt, e1, r1, r2, r3, rest⟩ := hC p hp
        refine ⟨o, vs, file, tf, flags, tg, inF, text, tt, hidT_get e1 (free e1 ?_ ?_), r1, r2, r3, rest⟩
        · intro v n z; rw [r2] at z; cases z
        · intro z
          rw [r2] at z
          cases z
          simp at r3
      · obtain ⟨bm, ob, m1, m2, m3, m4, m5, m6⟩ := hbm
        have n1 : bm ≠ mainGlobals := by
          intro z
          obtain ⟨o, es, ep, e, d, _⟩ := hns
          rw [z, e] at m3
          cases m3
          rw [d] at m6
          cases m6
        have n2 : bm ≠ p.2 := by
          intro z
          rw [z, tp] at m3
          cases m3
          cases m6
        refine ⟨bm, ob, m1, m2, n1, n2, hidT_get m3 (free m3 ?_ ?_), m4, m5, m6⟩
        · intro v n z; rw [m6] at z; cases z
        · intro z; rw [m6] at z; cases z
      · intro z
        obtain ⟨o, es, ep, e, d, _⟩ := hns
        rw [z, tp] at e
        cases e
        cases d
    have E0' : Env0 P w K mg (hidT s1.heap H) callerA [] s1 H :=
      ⟨rfl, M, fun b o e => of_hidT e, Nat.le_of_eq (hidT_size _ _), trivial, (fun b hb => nomatch (show b ∈ ([] : List Addr) from hb)), hok, .of_eq hg⟩
    refine codeAny_mono ((F _ KB (over hns) TB).run callerA [] s1 H ⟨[.ref a], []⟩ [.ref a] [.ref a] _ _ room rfl E0' (bi s1 (.ref a)) (.cons rfl .nil) (want H atT hS)) ?_
    intro r s' z
    cases r with
    | error e => exact False.elim z
    | ok fl =>
      cases fl with
      | next => exact False.elim z
      | brk => exact False.elim z
      | cont => exact False.elim z
      | ret u =>
        obtain ⟨v, H', os, bare, un, hok2, r1, q⟩ := z
        have q1 : v = .bl true := q
        subst q1
        have q2 : u = Value.bool true := r1
        subst q2
        have old : ∀ b o, b ∉ cs.map (·.2) → s1.heap.get? b = some o → s'.heap.get? b = some o := by
          intro b o nb e
          rcases only b with n | n | ⟨ob, xs, n⟩
          · exact un.keep b o e n (fun y => nomatch (show b ∈ ([] : List Addr) from y)) (fun y => nomatch y)
          · exact absurd n nb
          · obtain ⟨e1, _⟩ := hok b _ n
            obtain ⟨e2, _⟩ := hok2 b _ (un.frzs b ob _ n)
            rw [e] at e1
            cases e1
            exact e2
        have grown : ∀ p ∈ cs, ∃ more : Array Value, s'.heap.get? p.2 = some { cls := .none, data := .fields more } := by
          intro p hp
          obtain ⟨more, y⟩ := un.tbls p.2 #[] (atT p hp)
          exact ⟨_, hok2 p.2 _ y⟩
        refine ⟨rfl, ⟨?_, ?_⟩, os, bare⟩
        · intro b o e
          by_cases y : b ∈ cs.map (·.2)
          · obtain ⟨p, hp, rfl⟩ := List.mem_map.mp y
            obtain ⟨more, hm⟩ := grown p hp
            rw [hT p hp] at e
            cases e
            exact Or.inr (Or.inl ⟨((hC p hp).tab (hT p hp)).isCodeTable, rfl, #[], more, rfl, by rw [Array.empty_append]; exact hm⟩)
          · exact Or.inl (old b o y e)
        · intro b o e
          by_cases y : b ∈ cs.map (·.2)
          · obtain ⟨p, hp, rfl⟩ := List.mem_map.mp y
            obtain ⟨more, hm⟩ := grown p hp
            exact ⟨_, hm⟩
          · exact ⟨o, old b o y e⟩
  have inT : ∀ p ∈ cs, p.2 ∈ cs.map (·.2) := fun p hp => List.mem_map.mpr ⟨p, hp, rfl⟩
  cases hk : K.lookup a with
  | some o =>
    have e := KX a o hk
    rw [ha] at e
    cases e
    have t1 : ∀ b, b ∈ cs.map (·.2) → (fun b => if b ∈ cs.map (·.2) then some (HO.tbl #[]) else none : Hp) b = some (.tbl #[]) := fun b z => if_pos z
    have t2 : ∀ b, b ∉ cs.map (·.2) → (fun b => if b ∈ cs.map (·.2) then some (HO.tbl #[]) else none : Hp) b = none := fun b z => if_neg z
    refine main (fun b => if b ∈ cs.map (·.2) then some (HO.tbl #[]) else none) (fun p hp => t1 _ (inT p hp)) ?_ (Or.inr ⟨_, us.toArray, _, hk, rfl, rfl, rfl, ?_, ?_⟩) ?_ ?_ ?_
    · intro b
      by_cases z : b ∈ cs.map (·.2)
      · exact Or.inr (Or.inl z)
      · exact Or.inl (t2 b z)
    · rw [List.size_toArray, hi.length]; exact hl
    · simpa using rv
    · intro b u z
      by_cases y : b ∈ cs.map (·.2)
      · rw [t1 b y] at z
        cases z
        exact emp b y
      · rw [t2 b y] at z; cases z
    · intro b z
      by_cases y : b ∈ cs.map (·.2)
      · exact Or.inr y
      · exact absurd (t2 b y) z
    · intro z; exact absurd (t2 a aNot) z
  | none =>
    have at_a : (fun b => if b = a then some (HO.frz { cls := .type "list", data := .seq us.toArray } (.lst (ns.map V.int))) else if b ∈ cs.map (·.2) then some (HO.tbl #[]) else none : Hp) a
      = some (HO.frz { cls := .type "list", data := .seq us.toArray } (.lst (ns.map V.int))) := if_pos rfl
    have t1 : ∀ b, b ∈ cs.map (·.2) → (fun b => if b = a then some (HO.frz { cls := .type "list", data := .seq us.toArray } (.lst (ns.map V.int))) else if b ∈ cs.map (·.2) then some (HO.tbl #[]) else none : Hp) b
      = some (.tbl #[]) := fun b z => (if_neg (fun y => aNot (by rw [← y]; exact z))).trans (if_pos z)
    have t2 : ∀ b, b ≠ a → b ∉ cs.map (·.2) → (fun b => if b = a then some (HO.frz { cls := .type "list", data := .seq us.toArray } (.lst (ns.map V.int))) else if b ∈ cs.map (·.2) then some (HO.tbl #[]) else none : Hp) b
      = none := fun b y z => (if_neg y).trans (if_neg z)
    refine main (fun b => if b = a then some (HO.frz { cls := .type "list", data := .seq us.toArray } (.lst (ns.map V.int))) else if b ∈ cs.map (·.2) then some (HO.tbl #[]) else none)
      (fun p hp => t1 _ (inT p hp)) ?_ (Or.inl (Or.inr ⟨_, at_a⟩)) ?_ ?_ (fun _ => hk)
    · intro b
      by_cases z : b = a
      · subst z; exact Or.inr (Or.inr ⟨_, _, at_a⟩)
      · by_cases y : b ∈ cs.map (·.2)
        · exact Or.inr (Or.inl y)
        · exact Or.inl (t2 b z y)
    · intro b u z
      by_cases y : b = a
      · subst y
        rw [at_a] at z
        cases z
        exact ⟨ha, by rw [List.length_map]; exact hl, us, _, rv, ha⟩
      · by_cases y2 : b ∈ cs.map (·.2)
        · rw [t1 b y2] at z
          cases z
          exact emp b y2
        · rw [t2 b y y2] at z; cases z
    · intro b z
      by_cases y : b = a
      · exact Or.inl y
      · by_cases y2 : b ∈ cs.map (·.2)
        · exact Or.inr y2
        · exact absurd (t2 b y y2) z

/-- what is known of the code object of the def nm, and of its table, where the law begins -/
def TabOf (K : PySem.W.Frag) (mg : Str → Option Value) (h : Heap) (nm : Str) : Prop :=
  ∀ (f c Q : Addr) (o : Obj) (fd : FuncData) (e : Value) (dd : Option Addr) (vs : Array Value) (sl : Array (Option Value)), mg nm = some (.ref f) → K.lookup f = some o → o.data = .func fd → fd.code = .ref c →
    K.lookup c = some ⟨e, dd, .fields vs, sl⟩ → vs[11]? = some (.ref Q) → h.get? Q = some { cls := .none, data := .fields #[] } ∧ PySem.W.CodeHd h c Q
theorem walkGT {l : PySem.W.OpenLaw} {n k : Nat} {q : Program} {loose : List Str} {XP : (Str → Option Value) → Heap → Prop} {YP : World → Heap → Prop}
    {d : DefRec} {K : Params → PySem.W.Frag} {x : Str} (hn : l.most = some n) (hn2 : n ≤ sizeLine) (hdf : d.params.defaults = [])
    (room : Room k callerA) (hY : ∀ (w : World) (h : Heap), YP w h → (K w.params).In h)
    (F : ∀ (w : World) (mg : Str → Option Value) (fa : Addr) (h : Heap), (K w.params).In h → h.Ns mainGlobals mg → mg d.name = some (.ref fa) →
      (∀ nm : Str, ((recsOf q).any fun e => e.name == nm) = true → TabOf (K w.params) mg h nm) →
      ∃ (fd : FuncData) (cs : List (Addr × Addr)) (sp : Sp), (∀ p ∈ cs, h.get? p.2 = some { cls := .none, data := .fields #[] }) ∧ (∀ p ∈ cs, (K w.params).lookup p.2 = none) ∧ (∀ p ∈ cs, PySem.W.CodeHd h p.1 p.2) ∧
        (∀ (s : Shared) (u : Value), BindsTo s fd ⟨[u], []⟩ [(x, u)]) ∧
        (∀ (H : Hp) (a : Addr) (ns : List Int), ns.length ≤ n → (∀ p ∈ cs, H p.2 = some (.tbl #[])) → SqL (K w.params) H a (ns.map V.int) → sp [.ref a] H (fun v _ => v = .bl true) fun _ _ _ => False) ∧
        ∀ base : Heap, (K w.params).In base → base.Ns mainGlobals mg → (∀ p ∈ cs, TabB base mg p.1 p.2) → FnG l.prog w (K w.params) mg base k fa fd [x] sp) :
    PySem.W.WalkO q loose XP YP l.row.toRowW d [] (fun f vs => PySem.call f vs) := by
  refine Att.attach_call hn hdf ?_
  intro w s0 s1 mg mb fa o pm cd doc a us ns G Y ho hd hcd hmg hobj hints hlen hg
  have KX := hY w _ Y
  have tabs : ∀ nm : Str, ((recsOf q).any fun e => e.name == nm) = true → TabOf (K w.params) mg s1.heap nm := by
    intro nm hr f c Q o1 fd1 e dd vs sl k0 k1 k2 k3 k4 k5
    obtain ⟨dL, hm, hq⟩ := List.any_eq_true.mp hr
    have en : dL.name = nm := beq_iff_eq.mp hq
    obtain ⟨a', o', fd', c', P', h1, h2, h3, h4, h5, h6⟩ := G.T.tab dL hm
    rw [en, k0] at h1
    cases h1
    have g1 := KX _ _ k1
    rw [g1] at h2
    cases h2
    rw [k2] at h3
    cases h3
    rw [k3] at h4
    cases h4
    obtain ⟨⟨oc, vc, e1, e2, e3, e4⟩, hP⟩ := id h6
    have g2 := KX _ _ k4
    rw [g2] at e1
    cases e1
    cases e3
    rw [k5] at e4
    cases e4
    exact ⟨hP, PySem.W.CodeHd.of h5 h6⟩
  obtain ⟨fd, cs, sp, t1, t2, t3, b1, wt, b2⟩ := F w mg fa _ KX G.T.g hmg tabs
  exact endGT KX G.T.g G.T.b G.T.builtins G.T.nolimit hg t1 t2 t3 G.T.bmain hobj hints (Nat.le_trans hlen hn2) room b2 b1 (fun H hH hS => wt H a ns hlen hH hS)
end My
namespace My
open PySem PySem.Spec PyProof.Rows L2 LamX

theorem ar_srt (a f : Value) : argsOk "sorted" ⟨[a], [(Str.ofString "key", f)]⟩ := by unfold argsOk; kernel_rfl
theorem ar_ls (a f : Value) : argsOk "list.sort" ⟨[a], [(Str.ofString "key", f)]⟩ := by unfold argsOk; kernel_rfl

/-! the key: a lambda that gives the first item of its row -/
theorem first_call {prog : Program} {w : World} {A : Around} {s : Shared} {f c' t : Addr} {q nm : Str} {params : Arguments} {scope : Scope} {pm ctv : Value} {p1 p2 p3 : Pos} {jj : Nat}
    {its : Array Value} {z : Int} {tz : Tok} (room : A.depth < recursionLimit) (nl : s.heap.NoLimit)
    (hf : s.heap.get? f = some (PySem.W.kla_obj "<lambda>" q params (.Subscript (.Name nm p1) (.Constant (.int 0) jj p2) p3) scope [] pm c' ctv))
    (hc : ∃ (oc : Obj) (vs : Array Value) (tq : Tok), s.heap.get? c' = some oc ∧ oc.data = .fields vs ∧ vs[1]? = some (.str q tq))
    (kk : scope.kind = .function) (k2 : scope.isCoroutine = false) (k3 : scope.isGenerator = false) (names : scope.names = [(nm, .local)])
    (hd : (nm == ("__debug__" : Str)) = false)
    (hbind : ∀ (q : Str) (cl : List (Str × Addr)) (pm cv ctv v : Value), bindArgs (PySem.W.kla_fn "<lambda>" q params (.Subscript (.Name nm p1) (.Constant (.int 0) jj p2) p3) scope cl pm cv ctv) ⟨[v], []⟩ = pure [(nm, v)])
    (ht : IsTup s.heap t its) (h0 : its[0]? = some (.int z tz)) :
    wpAny (model prog w) A (call (.ref f) [.ref t]) (PySem.W.KeyPure (.int z) s) (fun _ _ => False) s := by
  obtain ⟨oc, vs, tq, c1, c2, c3⟩ := hc
  refine wpAny_call ?_
  refine PySem.W.kla_callFunE room hf rfl k2 k3 rfl ⟨c', oc, vs, tq, rfl, c1, c2, c3⟩ ?_
  rw [hbind]
  refine wpAny_pure ?_
  refine wpAny_newFunctionEnv ?_ ?_ ?_ kk
  · intro x hx z
    rw [names] at hx
    have e : x = (nm, .local) := by simpa using hx
    rw [e] at z
    cases z
  · intro x hx
    have e : x = (nm, .ref t) := by simpa using hx
    rw [e, names]
    simp
  intro h1 hns hsb
  have kp : ∀ b o, s.heap.get? b = some o → h1.get? b = some o := fun b o e => hsb.extBut b o (Nat.ne_of_lt (Heap.lt_size e)) (Heap.get?_push_of_some _ e)
  refine ⟨nl.fresh _ hsb, ?_⟩
  refine PySem.W.kla_codeExpr ?_
  have look : ([(nm, Value.ref t)] : List (Str × Value)).reverse.lookup nm = some (.ref t) := by simp
  refine Subscript_ (wpAny_Name (wpAny_loadName_local kk ?_ hns look ?_) hd)
  · show scope.names.lookup nm = some .local
    rw [names]
    simp
  refine wpAny_Constant_int ?_
  have ht1 : IsTup h1 t its := by
    obtain ⟨ob, e, r⟩ := ht
    exact ⟨ob, kp _ _ e, r⟩
  have lt0 : 0 < its.size := by
    rcases Nat.lt_or_ge 0 its.size with y | y
    · exact y
    · rw [Array.getElem?_eq_none y] at h0
      cases h0
  refine subscriptTail_builtinR (x := .int z tz) ht1.typeIs slot_tuple_getitem.lookup ?_
  refine PyProof.Rows.getItem_tuple ht1 (by decide) (by decide) (PySem.seqIndex_of (k := 0) (n := its.size) (by decide) (by omega)) h0 ⟨rfl, ?_⟩
  exact ⟨h1, _, rfl, kp, .int z tz⟩

def tSrt (K : PySem.W.Frag) (T : List (Addr × Str)) (ta : TA) : TE := fun sg H Q => ta sg H fun vs H1 => ∃ (a : Addr) (xs : List V) (kf : V → Int), vs = [.ref a] ∧ SqL K H1 a xs ∧ Tabs T H1 ∧ xs.length ≤ 4000 ∧
  (∀ v ∈ xs, ∃ t r, v = .ref t ∧ H1 t = some (.tup (.int (kf v) :: r))) ∧
  ∀ (ys : List V) (p : Addr) (H2 : Hp), ys.Perm xs → ys.Pairwise (fun x y => kf x ≤ kf y) → ExtN H1 H2 → Tabs T H2 → H2 p = none → Q (.ref p) (upd H2 p (.lst ys))
theorem each_vals {α : Type} {R : Value → V → Prop} (hR : ∀ u v, RelV v u → R u v) : ∀ {xs : List V} {us : List Value}, Vals xs us → PySem.W.EachIs R us xs
  | _, _, .nil => .nil
  | _, _, .cons r t => .cons (hR _ _ r) (each_vals (α := α) hR t)
theorem vals_each {R : Value → V → Prop} (hR : ∀ u v, R u v → RelV v u) : ∀ {xs : List V} {us : List Value}, PySem.W.EachIs R us xs → Vals xs us
  | _, _, .nil => .nil
  | _, _, .cons r t => .cons (hR _ _ r) (vals_each hR t)
theorem pe_srt {X : Cx} {T : List (Addr × Str)} {c P : Addr} {p pos kpos lpos : Pos} {e : Expr} {ta : TA} {params : Arguments} {scope : Scope} {nm : Str} {p1 p2 p3 : Pos} {jj : Nat}
    (hg : Gl X "sorted") (hm : X.mg "sorted" = none) (ha : PA X [e] ta) (TB : TabB X.base X.mg c P) (hcode : X.env.code = .ref c)
    (hmem : (P, X.env.qual ++ "<lambda>") ∈ T) (hu : ∀ p ∈ T, p.1 = P → p.2 = X.env.qual ++ "<lambda>") (room : Room 2 X.A) (hdef : defaultsOf params X.env = ([], []))
    (kk : scope.kind = .function) (k2 : scope.isCoroutine = false) (k3 : scope.isGenerator = false) (names : scope.names = [(nm, .local)]) (hd : (nm == ("__debug__" : Str)) = false)
    (hbind : ∀ (q : Str) (cl : List (Str × Addr)) (pm cv ctv v : Value), bindArgs (PySem.W.kla_fn "<lambda>" q params (.Subscript (.Name nm p1) (.Constant (.int 0) jj p2) p3) scope cl pm cv ctv) ⟨[v], []⟩ = pure [(nm, v)])
    (he : backTo pos (starEach [e] X.env) = (false, eval e X.env) :: backTo pos (starEach [] X.env) := by rfl) (hpl : (backTo pos (starEach [e] X.env)).any (·.1) = false := by rfl)
    (hall : (backToKw pos (keywordEach [⟨some "key", .Lambda params (.Subscript (.Name nm p1) (.Constant (.int 0) jj p2) p3) scope lpos, kpos⟩] X.env)).all (·.1.isSome) = true := by rfl)
    (hnone : (backToKw pos (keywordEach [⟨some "key", .Lambda params (.Subscript (.Name nm p1) (.Constant (.int 0) jj p2) p3) scope lpos, kpos⟩] X.env)).any (·.1.isNone) = false := by rfl)
    (hks : (backToKw pos (keywordEach [⟨some "key", .Lambda params (.Subscript (.Name nm p1) (.Constant (.int 0) jj p2) p3) scope lpos, kpos⟩] X.env)).filterMap (·.1) = [Str.ofString "key"] := by rfl) :
    PE X (.Call (.Name "sorted" p) [e] [⟨some "key", .Lambda params (.Subscript (.Name nm p1) (.Constant (.int 0) jj p2) p3) scope lpos, kpos⟩] pos) (tSrt X.K T ta) := by
  refine ⟨fun pins s sg H Q I want => ?_⟩
  refine wpAny_Call_Name_kw (ld_blt I hg hm (by decide +kernel : bootBuiltins "sorted" = some (.builtin "sorted")) ?_)
  refine PyProof.Rows.callWith_kw (thn (ha.run pos pins s sg H _ I want) ?_) he hpl hall hnone
  rintro us s1 ⟨vs, H1, I1, rv, a, xs, kf, rfl, hq, hT, hlen, hrow, q⟩
  obtain ⟨u, rfl, ru⟩ := rv.one
  have ru' : u = Value.ref a := ru
  subst ru'
  rw [hks]
  show wpAny _ _ (evalAll ((do let v ← eval (.Lambda params (.Subscript (.Name nm p1) (.Constant (.int 0) jj p2) p3) scope lpos) X.env; standAt pos; pure v) :: [])) _ _ s1
  refine wpAny_evalAll_cons (wpAny_bind ?_)
  have nofree : ∀ y ∈ scope.names, y.2 = .free → ∃ c, X.env.cells.lookup y.1 = some c := by
    intro y hy z
    rw [names] at hy
    have ey : y = (nm, .local) := by simpa using hy
    rw [ey] at z
    cases z
  refine lam_make2 I1 TB hcode hmem hu hT hdef nofree ?_
  intro f c' pm ctv H2 s2 I2 ext T2 hf hfn hfr hco
  refine wpAny_bind (wpAny_standAt (wpAny_pure (wpAny_evalAll_nil ?_)))
  have noclo : cloFrom X.env.cells scope.names [] = [] := by rw [names]; rfl
  rw [noclo] at hf
  have keepL : SqL X.K H2 a xs := by
    rcases hq with (h | ⟨o, h⟩) | h
    · exact Or.inl (Or.inl (ext _ _ h (fun ps z => nomatch z)))
    · exact Or.inl (Or.inr ⟨o, ext _ _ h (fun ps z => nomatch z)⟩)
    · exact Or.inr h
  have rowAt : ∀ v ∈ xs, ∃ t r, v = .ref t ∧ H2 t = some (.tup (.int (kf v) :: r)) := by
    intro v hv
    obtain ⟨t, r, e1, e2⟩ := hrow v hv
    exact ⟨t, r, e1, ext _ _ e2 (fun ps z => nomatch z)⟩
  obtain ⟨its, rv2, pl, hz⟩ := I2.list keepL
  obtain ⟨⟨oc, ovs, tq, c1, c2, c3⟩, _, _⟩ := I2.hok c' _ hco
  show wpAny _ _ (call (.builtin "sorted") [.ref a] [(Str.ofString "key", .ref f)]) _ _ s2
  have alike1 : ∀ x y : Int, PySem.W.alike (.int x) (.int y) = true := fun x y => by simp [PySem.W.alike]
  refine PySem.W.sorted_key_data (b := false) (R := fun u v => RelV v u) (vs := its) (bs := xs) (fun v => PyData.int (kf v)) pl.isList (each_vals (α := Nat) (fun u v r => r) rv2) ?_ ?_ hz ?_
    (ar_srt _ _) (fun x => ar_ls _ _) (fun x => rfl) ?_ ?_
  · intro d hd2 d' hd3
    obtain ⟨v, _, rfl⟩ := List.mem_map.mp hd2
    obtain ⟨v', _, rfl⟩ := List.mem_map.mp hd3
    exact alike1 _ _
  · refine Or.inr ?_
    intro d hd2
    obtain ⟨v, _, rfl⟩ := List.mem_map.mp hd2
    exact ⟨(fun z => nomatch z), (fun xs z => nomatch z)⟩
  · intro x hx
    have h1 := room.un
    have h2 : (PyData.int (kf x)).depth ≤ 2 := by simp [PyData.depth]
    omega
  · intro v x rx hx h tk kp
    obtain ⟨t, r, rfl, hrt⟩ := rowAt x hx
    have ev : v = Value.ref t := rx
    subst ev
    obtain ⟨its2, rv3, pt, _⟩ := I2.tuple (SqT.of hrt)
    obtain ⟨u0, hu0, ru0⟩ := rv3.get (i := 0) rfl
    obtain ⟨tz, rfl⟩ := ru0
    refine first_call (s := { s2 with heap := h, toks := tk }) ?_ (I2.nolimit.keeps kp) (kp _ _ hf) ⟨oc, ovs, tq, kp _ _ c1, c2, c3⟩ kk k2 k3 names hd hbind (its := its2.toArray) (z := kf (.ref t)) (tz := tz) ?_ ?_
    · have h1 := room.dp
      show X.A.depth < recursionLimit
      omega
    · obtain ⟨ob, e, r2⟩ := pt
      exact ⟨ob, kp _ _ e, r2⟩
    · simpa using hu0
  · intro out c h' tk kp fr hD hl each
    have hz2 : (xs.mergeSort (PySem.W.dataLe false fun v => PyData.int (kf v))).length ≤ sizeLine := by rw [List.length_mergeSort]; exact hz
    have rel : Vals (xs.mergeSort (PySem.W.dataLe false fun v => PyData.int (kf v))) out := vals_each (fun u v r => r) each
    have free : H2 (s2.heap.objs.size + 1) = none := I2.hok.fresh (Nat.le_succ _)
    refine ⟨.ref (s2.heap.objs.size + 1), upd H2 (s2.heap.objs.size + 1) (.lst (xs.mergeSort (PySem.W.dataLe false fun v => PyData.int (kf v)))), I2.laid kp (Nat.le_succ _) ⟨hz2, out, c, rel, hD⟩, rfl, ?_⟩
    refine q _ _ H2 (List.mergeSort_perm _ _) ?_ ext T2 free
    rw [PySem.W.dataLe_int]
    have z := List.pairwise_mergeSort (le := fun (a b : V) => decide (kf a ≤ kf b)) (by intro a b c h1 h2; have h3 := of_decide_eq_true h1; have h4 := of_decide_eq_true h2; exact decide_eq_true (by omega))
      (by intro a b; rcases Int.le_total (kf a) (kf b) with h | h <;> simp [h]) xs
    exact z.imp fun h => of_decide_eq_true h
end My
namespace My
open PySem PySem.Spec PyProof.Rows L2

abbrev hd (b : List Int) : Int := b.headD 0
/-! cutting what is put together -/
theorem foldl_put : ∀ (y : List Int) (bs cs : List (List Int)), cs ≠ [] → y.foldl put (bs ++ cs) = bs ++ y.foldl put cs
  | [], _, _, _ => rfl
  | n :: y, bs, cs, h => by
    obtain ⟨ini, l, e⟩ : ∃ ini l, cs = ini ++ [l] := by
      rcases List.eq_nil_or_concat cs with z | ⟨a, b, z⟩
      · exact absurd z h
      · exact ⟨a, b, by rw [z, List.concat_eq_append]⟩
    have e1 : put (bs ++ cs) n = bs ++ put cs n := by
      rw [e, ← List.append_assoc, put_snoc, put_snoc]
      split <;> simp
    have e2 : put cs n ≠ [] := by
      rw [e, put_snoc]
      split <;> simp
    show y.foldl put (put (bs ++ cs) n) = bs ++ y.foldl put (put cs n)
    rw [e1]
    exact foldl_put y bs (put cs n) e2
theorem cut_app {x y : List Int} (h : ∀ m r, y = m :: r → ∀ z ∈ x, z < m) : cut (x ++ y) = cut x ++ cut y := by
  cases y with
  | nil => simp [cut]
  | cons m r =>
    have hx := h m r rfl
    have e1 : put (cut x) m = cut x ++ [[m]] := by
      refine put_new ?_
      rcases (good_cut x).last with e | ⟨ini, k, l, e, hk, _⟩
      · exact Or.inl e
      · exact Or.inr ⟨ini, k, l, e, hx k hk⟩
    have e2 : cut (x ++ m :: r) = r.foldl put (put (cut x) m) := by
      unfold cut
      rw [List.foldl_append]
      rfl
    rw [e2, e1, foldl_put _ _ _ (by simp)]
    rfl
theorem cut_one {h : Int} : ∀ {a : List Int}, (∀ z ∈ a, z ≤ h) → ∀ pre : List Int, a.foldl put [h :: pre] = [h :: pre ++ a]
  | [], _, pre => by simp
  | n :: a, hz, pre => by
    have h1 : ¬ (h :: pre).headD 0 < n := by
      have := hz n (List.mem_cons_self ..)
      show ¬ h < n
      omega
    have e : put [h :: pre] n = [h :: (pre ++ [n])] := by
      have z := put_snoc [] (h :: pre) n
      rw [if_neg h1] at z
      exact z
    show a.foldl put (put [h :: pre] n) = _
    rw [e, cut_one (fun z hz2 => hz z (List.mem_cons_of_mem _ hz2)) (pre ++ [n])]
    simp
theorem cut_blk {h : Int} {a : List Int} (hz : ∀ z ∈ a, z ≤ h) : cut (h :: a) = [h :: a] := by
  have := cut_one hz []
  simpa [cut, put] using this
def lowr (h : Int) (t : List Int) : List Int := t.takeWhile fun z => decide (z ≤ h)
def uppr (h : Int) (t : List Int) : List Int := t.dropWhile fun z => decide (z ≤ h)
theorem low_up (h : Int) (t : List Int) : lowr h t ++ uppr h t = t := List.takeWhile_append_dropWhile
theorem low_le {h : Int} {t : List Int} : ∀ z ∈ lowr h t, z ≤ h := by
  induction t with
  | nil => intro z hz; simp [lowr] at hz
  | cons x t ih =>
    intro z hz
    unfold lowr at hz ih
    by_cases hx : x ≤ h
    · rw [List.takeWhile_cons_of_pos (by simpa using hx)] at hz
      rcases List.mem_cons.mp hz with e | e
      · rw [e]; exact hx
      · exact ih z e
    · rw [List.takeWhile_cons_of_neg (by simpa using hx)] at hz
      cases hz
theorem up_gt {h : Int} {t : List Int} : ∀ m r, uppr h t = m :: r → h < m := by
  induction t with
  | nil => intro m r e; simp [uppr] at e
  | cons x t ih =>
    intro m r e
    unfold uppr at e ih
    by_cases hx : x ≤ h
    · rw [List.dropWhile_cons_of_pos (by simpa using hx)] at e
      exact ih m r e
    · rw [List.dropWhile_cons_of_neg (by simpa using hx)] at e
      have := (List.cons.inj e).1
      omega
theorem up_len (h : Int) (t : List Int) : (uppr h t).length ≤ t.length := by
  have e := congrArg List.length (low_up h t)
  rw [List.length_append] at e
  omega
theorem cut_cons (h : Int) (t : List Int) : cut (h :: t) = (h :: lowr h t) :: cut (uppr h t) := by
  have e : h :: t = (h :: lowr h t) ++ uppr h t := by
    show h :: t = h :: (lowr h t ++ uppr h t)
    rw [low_up]
  rw [e, cut_app ?_, cut_blk low_le]
  · rfl
  · intro m r em z hz
    have hm := up_gt m r em
    rcases List.mem_cons.mp hz with e2 | e2
    · omega
    · have := low_le z e2
      omega
theorem cut_low (h : Int) (t : List Int) : cut t = cut (lowr h t) ++ cut (uppr h t) := by
  have e := low_up h t
  have := cut_app (x := lowr h t) (y := uppr h t) (fun m r em z hz => by
    have := up_gt m r em
    have := low_le z hz
    omega)
  rw [e] at this
  exact this
/-- the blocks of a list: heads ascend, each is the greatest of its block, none is less than the first number -/
theorem cut_facts : ∀ (n : Nat) (q : List Int), q.length ≤ n → (cut q).Pairwise (fun x y => hd x < hd y) ∧ (∀ b ∈ cut q, b ≠ [] ∧ ∀ x ∈ b, x ≤ hd b) ∧ ∀ b ∈ cut q, hd q ≤ hd b
  | 0, q, hn => by
    have e : q = [] := List.eq_nil_of_length_eq_zero (by omega)
    subst e
    simp [cut]
  | n + 1, [], hn => by simp [cut]
  | n + 1, h :: t, hn => by
    have hlen := up_len h t
    obtain ⟨i1, i2, i3⟩ := cut_facts n (uppr h t) (by rw [List.length_cons] at hn; omega)
    have above : ∀ b ∈ cut (uppr h t), h < hd b := by
      intro b hb
      have h3 := i3 b hb
      cases e : uppr h t with
      | nil => rw [e] at hb; simp [cut] at hb
      | cons m r =>
        have := up_gt m r e
        rw [e] at h3
        have h4 : m ≤ hd b := h3
        omega
    rw [cut_cons]
    refine ⟨List.pairwise_cons.mpr ⟨above, i1⟩, ?_, ?_⟩
    · intro b hb
      rcases List.mem_cons.mp hb with e | e
      · subst e
        refine ⟨by simp, fun x hx => ?_⟩
        rcases List.mem_cons.mp hx with e2 | e2
        · rw [e2]; exact Int.le_refl _
        · exact low_le x e2
      · exact i2 b e
    · intro b hb
      rcases List.mem_cons.mp hb with e | e
      · subst e; exact Int.le_refl _
      · have := above b e
        show h ≤ hd b
        omega
theorem cut_asc (q : List Int) : (cut q).Pairwise (fun x y => hd x < hd y) := (cut_facts q.length q (Nat.le_refl _)).1
theorem cut_mem {q b : List Int} (h : b ∈ cut q) : b ≠ [] ∧ ∀ x ∈ b, x ≤ hd b := (cut_facts q.length q (Nat.le_refl _)).2.1 b h
theorem cut_ge {q b : List Int} (h : b ∈ cut q) : hd q ≤ hd b := (cut_facts q.length q (Nat.le_refl _)).2.2 b h
theorem hd_mem {b : List Int} (h : b ≠ []) : hd b ∈ b := by
  cases b with
  | nil => exact absurd rfl h
  | cons x r => exact List.mem_cons_self ..
/-- blocks put together in ascending order are cut again into the same -/
theorem cut_flat : ∀ {bs : List (List Int)}, (∀ b ∈ bs, b ≠ [] ∧ ∀ x ∈ b, x ≤ hd b) → bs.Pairwise (fun x y => hd x < hd y) → cut bs.flatten = bs
  | [], _, _ => rfl
  | b :: bs, h, p => by
    obtain ⟨ne, mx⟩ := h b (List.mem_cons_self ..)
    obtain ⟨p1, p2⟩ := List.pairwise_cons.mp p
    cases b with
    | nil => exact absurd rfl ne
    | cons k r =>
      rw [List.flatten_cons, cut_app ?_, cut_flat (fun c hc => h c (List.mem_cons_of_mem _ hc)) p2, cut_blk]
      · rfl
      · exact fun z hz => mx z (List.mem_cons_of_mem _ hz)
      · intro m s em z hz
        cases bs with
        | nil => cases em
        | cons c cs =>
          obtain ⟨nc, _⟩ := h c (List.mem_cons_of_mem _ (List.mem_cons_self ..))
          have hc := p1 c (List.mem_cons_self ..)
          cases c with
          | nil => exact absurd rfl nc
          | cons k2 r2 =>
            have e : k2 = m := by
              rw [List.flatten_cons] at em
              exact (List.cons.inj em).1
            have h1 := mx z hz
            have h2 : k < k2 := hc
            have h3 : z ≤ k := h1
            omega
/-! sorting by the first number -/
def bySm {α : Type} (g : α → Int) (l : List α) : List α := l.mergeSort fun a b => decide (g a ≤ g b)
theorem by_perm {α : Type} (g : α → Int) (l : List α) : (bySm g l).Perm l := List.mergeSort_perm _ _
theorem by_sorted {α : Type} (g : α → Int) (l : List α) : (bySm g l).Pairwise fun a b => g a ≤ g b := by
  have z := List.pairwise_mergeSort (le := fun (a b : α) => decide (g a ≤ g b)) (by intro a b c h1 h2; have h3 := of_decide_eq_true h1; have h4 := of_decide_eq_true h2; exact decide_eq_true (by omega))
    (by intro a b; rcases Int.le_total (g a) (g b) with h | h <;> simp [h]) l
  exact z.imp fun h => of_decide_eq_true h
theorem sort_one {α : Type} {g : α → Int} : ∀ {xs ys : List α}, xs.Perm ys → (xs.map g).Nodup → xs.Pairwise (fun a b => g a ≤ g b) → ys.Pairwise (fun a b => g a ≤ g b) → xs = ys
  | [], ys, p, _, _, _ => (List.nil_perm.mp p).symm ▸ rfl
  | x :: xs, [], p, _, _, _ => absurd (List.perm_nil.mp p) (by simp)
  | x :: xs, y :: ys, p, nd, s1, s2 => by
    obtain ⟨a1, a2⟩ := List.pairwise_cons.mp s1
    obtain ⟨b1, b2⟩ := List.pairwise_cons.mp s2
    rw [List.map_cons] at nd
    obtain ⟨n1, n2⟩ := List.nodup_cons.mp nd
    have e : x = y := by
      have hx : x ∈ y :: ys := p.mem_iff.mp (List.mem_cons_self ..)
      have hy : y ∈ x :: xs := p.mem_iff.mpr (List.mem_cons_self ..)
      rcases List.mem_cons.mp hx with z | z
      · exact z
      · rcases List.mem_cons.mp hy with w | w
        · exact w.symm
        · have h1 := b1 x z
          have h2 := a1 y w
          have h3 : g y = g x := by omega
          exact absurd (List.mem_map.mpr ⟨y, w, h3⟩) n1
    subst e
    rw [sort_one (List.Perm.cons_inv p) n2 a2 b2]
theorem by_one {α : Type} {g : α → Int} {l ys : List α} (p : ys.Perm l) (nd : (l.map g).Nodup) (s : ys.Pairwise fun a b => g a ≤ g b) : ys = bySm g l :=
  sort_one (p.trans (by_perm g l).symm) ((p.map g).nodup_iff.mpr nd) s (by_sorted g l)
/-! merging -/
def cuts (qs : List (List Int)) : List (List Int) := qs.flatMap cut
def mrg (qs : List (List Int)) : List Int := (bySm hd (cuts qs)).flatten
theorem heads_sub : ∀ {bs : List (List Int)}, (∀ b ∈ bs, b ≠ []) → (bs.map hd).Sublist bs.flatten
  | [], _ => List.Sublist.refl _
  | [] :: bs, h => absurd rfl (h [] (List.mem_cons_self ..))
  | (x :: r) :: bs, h => by
    have ih := heads_sub (bs := bs) fun b hb => h b (List.mem_cons_of_mem _ hb)
    show (x :: bs.map hd).Sublist (x :: (r ++ bs.flatten))
    exact (ih.trans (List.sublist_append_right _ _)).cons_cons x
theorem cuts_flat : ∀ qs : List (List Int), (cuts qs).flatten = qs.flatten
  | [] => rfl
  | q :: qs => by
    show (cut q ++ cuts qs).flatten = q ++ qs.flatten
    rw [List.flatten_append, (good_cut q).flat, cuts_flat qs]
theorem cuts_mem {qs : List (List Int)} {b : List Int} (h : b ∈ cuts qs) : ∃ q ∈ qs, b ∈ cut q := by
  obtain ⟨q, hq, hb⟩ := List.mem_flatMap.mp h
  exact ⟨q, hq, hb⟩
theorem cuts_nd {qs : List (List Int)} (nd : qs.flatten.Nodup) : ((cuts qs).map hd).Nodup := by
  have h := heads_sub (bs := cuts qs) fun b hb => by
    obtain ⟨q, _, hq⟩ := cuts_mem hb
    exact (cut_mem hq).1
  rw [cuts_flat] at h
  exact nd.sublist h
theorem mrg_perm (qs : List (List Int)) : (mrg qs).Perm qs.flatten := by
  have h := (by_perm hd (cuts qs)).flatten
  rw [cuts_flat] at h
  exact h
theorem mrg_step {pre post : List (List Int)} {h : Int} {t : List Int} (nd : (pre ++ (h :: t) :: post).flatten.Nodup) (least : ∀ q, q ∈ pre ∨ q ∈ post → q ≠ [] → h < hd q) :
    mrg (pre ++ (h :: t) :: post) = h :: mrg (pre ++ t :: post) := by
  have nd2 : (pre ++ t :: post).flatten.Nodup := by
    refine nd.sublist ?_
    rw [List.flatten_append, List.flatten_append, List.flatten_cons, List.flatten_cons]
    exact List.Sublist.append (List.Sublist.refl _) (List.Sublist.append ((List.Sublist.refl t).cons h) (List.Sublist.refl _))
  have c1 : cuts (pre ++ (h :: t) :: post) = cuts pre ++ ((h :: lowr h t) :: cut (uppr h t)) ++ cuts post := by
    unfold cuts
    rw [List.flatMap_append, List.flatMap_cons, cut_cons, List.append_assoc]
  have c2 : cuts (pre ++ t :: post) = cuts pre ++ (cut (lowr h t) ++ cut (uppr h t)) ++ cuts post := by
    unfold cuts
    rw [List.flatMap_append, List.flatMap_cons, cut_low h t]
    simp only [List.append_assoc]
  have above : ∀ b ∈ cuts pre ++ cut (uppr h t) ++ cuts post, h < hd b := by
    have out : ∀ q b, (q ∈ pre ∨ q ∈ post) → b ∈ cut q → h < hd b := by
      intro q b hq hb
      have ne : q ≠ [] := by
        intro z
        rw [z] at hb
        simp [cut] at hb
      have := least q hq ne
      have := cut_ge hb
      omega
    intro b hb
    rcases List.mem_append.mp hb with z | z
    · rcases List.mem_append.mp z with y | y
      · obtain ⟨q, hq, hb2⟩ := cuts_mem y
        exact out q b (Or.inl hq) hb2
      · have h3 := cut_ge y
        cases e : uppr h t with
        | nil => rw [e] at y; simp [cut] at y
        | cons m r =>
          have := up_gt m r e
          rw [e] at h3
          have h4 : m ≤ hd b := h3
          omega
    · obtain ⟨q, hq, hb2⟩ := cuts_mem z
      exact out q b (Or.inr hq) hb2
  have po := by_perm hd (cuts pre ++ cut (uppr h t) ++ cuts post)
  have so := by_sorted hd (cuts pre ++ cut (uppr h t) ++ cuts post)
  have e1 : (h :: lowr h t) :: bySm hd (cuts pre ++ cut (uppr h t) ++ cuts post) = bySm hd (cuts (pre ++ (h :: t) :: post)) := by
    refine by_one ?_ (cuts_nd nd) ?_
    · rw [c1]
      refine (List.Perm.cons _ po).trans ?_
      rw [List.append_assoc, List.append_assoc]
      exact List.perm_middle.symm
    · refine List.pairwise_cons.mpr ⟨fun b hb => ?_, so⟩
      have := above b (po.mem_iff.mp hb)
      show h ≤ hd b
      omega
  have e2 : cut (lowr h t) ++ bySm hd (cuts pre ++ cut (uppr h t) ++ cuts post) = bySm hd (cuts (pre ++ t :: post)) := by
    refine by_one ?_ (cuts_nd nd2) ?_
    · rw [c2]
      refine (List.Perm.append_left _ po).trans ?_
      rw [← List.append_assoc, ← List.append_assoc, ← List.append_assoc]
      refine List.Perm.append_right _ ?_
      refine List.Perm.append_right _ ?_
      exact List.perm_append_comm
    · refine List.pairwise_append.mpr ⟨(cut_asc _).imp fun z => Int.le_of_lt z, so, fun a ha b hb => ?_⟩
      have h1 := above b (po.mem_iff.mp hb)
      have h2 : hd a ≤ h := by
        have hmem : hd a ∈ lowr h t := by
          have := (good_cut (lowr h t)).flat
          rw [← this]
          exact List.mem_flatten.mpr ⟨a, ha, hd_mem (cut_mem ha).1⟩
        exact low_le _ hmem
      omega
  unfold mrg
  rw [← e1, ← e2, List.flatten_cons, List.flatten_append, (good_cut (lowr h t)).flat]
  rfl
theorem mrg_none {qs : List (List Int)} (h : ∀ q ∈ qs, q = []) : mrg qs = [] := by
  have e : cuts qs = [] := by
    unfold cuts
    exact List.flatMap_eq_nil_iff.mpr fun q hq => by rw [h q hq]; rfl
  unfold mrg bySm
  rw [e]
  simp
theorem cut_mrg {qs : List (List Int)} (nd : qs.flatten.Nodup) : cut (mrg qs) = bySm hd (cuts qs) := by
  refine cut_flat ?_ ?_
  · intro b hb
    obtain ⟨q, _, hq⟩ := cuts_mem ((by_perm hd (cuts qs)).mem_iff.mp hb)
    exact cut_mem hq
  · have n1 : ((bySm hd (cuts qs)).map hd).Nodup := ((by_perm hd (cuts qs)).map hd).nodup_iff.mpr (cuts_nd nd)
    have n2 := List.pairwise_map.mp n1
    exact (List.pairwise_and_iff.mpr ⟨by_sorted hd (cuts qs), n2⟩).imp fun z => by
      obtain ⟨z1, z2⟩ := z
      omega
end My
namespace My
open PySem PySem.Spec PyProof.Rows L2
/-! sorted of whole numbers, any length -/
def rSortA (K : PySem.W.Frag) : List V → Hp → VK → Prop := fun vs H Q => ∃ (a : Addr) (ns : List Int), vs = [V.ref a] ∧ SqL K H a (ns.map V.int) ∧
  ∀ (ns' : List Int) (p : Addr), ns'.Perm ns → ns'.Pairwise (· ≤ ·) → H p = none → Q (.ref p) (upd H p (.lst (ns'.map V.int)))
theorem cr_sortA {X : Cx} : CallR X (.builtin "sorted") (rSortA X.K) := by
  intro pins s σ H vs us Q I r h
  obtain ⟨a, ns, rfl, hs, q⟩ := h
  obtain ⟨its, rv, hl, hz⟩ := I.list hs
  rw [Vals.ref1 r]
  have hi := rv.ints
  have hlz : its.length ≤ sizeLine := by rw [hi.length]; rwa [List.length_map] at hz
  refine PyProof.Rows.sorted_intsAny hl.isList hi hlz fun out ns' h1 h2 h3 => ?_
  obtain ⟨ep, he'⟩ := PyProof.Rows.sortedAll_at s.heap its out
  have hlen : (ns'.map V.int).length ≤ sizeLine := by rw [List.length_map, h2.length_eq]; rwa [List.length_map] at hz
  exact ⟨.ref _, upd H (s.heap.objs.size + 1) (.lst (ns'.map V.int)), I.laid (t' := s.toks) (fun _ _ => PyProof.Rows.sortedAll_old) (Nat.le_succ _) ⟨hlen, out.toList, ep, vals_of_ints h1, he'⟩, rfl, q ns' _ h2 h3 (I.hok.fresh (Nat.le_succ _))⟩
/-! list(range(n)) -/
theorem cr_range1 {X : Cx} : CallR X (.type "range") (fun vs H Q => ∃ j, vs = [V.int j] ∧ ∀ p, H p = none → Q (.ref p) (upd H p (.rng 0 j))) := by
  intro pins s σ H vs us Q I r h
  obtain ⟨j, rfl, q⟩ := h
  obtain ⟨u, rfl, ru⟩ := vals1 r
  obtain ⟨t, rfl⟩ := ru
  refine call_range_1 ⟨.ref s.heap.objs.size, upd H s.heap.objs.size (.rng 0 j), I.laid (t' := s.toks + 1 + 1) (fun b o e => Heap.get?_push_of_some _ e) (Nat.le_refl _) ?_, rfl, q _ (I.hok.fresh (Nat.le_refl _))⟩
  exact ⟨s.toks, t, s.toks + 1, Heap.get?_push_size _ rfl⟩
theorem vals_ix {P : Nat → Value → Prop} {g : Nat → V} (hg : ∀ i v, P i v → RelV (g i) v) : ∀ (us : List Value) (k : Nat), (∀ j v, us[j]? = some v → P (k + j) v) → Vals ((List.range us.length).map fun i => g (k + i)) us
  | [], _, _ => .nil
  | u :: us, k, h => by
    rw [List.length_cons, List.range_succ_eq_map, List.map_cons, List.map_map]
    refine .cons (hg _ _ (h 0 u rfl)) ?_
    have ih := vals_ix hg us (k + 1) fun j v e => by
      have := h (j + 1) v e
      rwa [show k + 1 + j = k + (j + 1) by omega]
    have e : ((fun i => g (k + i)) ∘ Nat.succ) = fun i => g (k + 1 + i) := by
      funext i
      show g (k + (i + 1)) = g (k + 1 + i)
      rw [show k + (i + 1) = k + 1 + i by omega]
    rw [e]
    exact ih
def rListR : List V → Hp → VK → Prop := fun xs H Q => ∃ (r : Addr) (n : Nat), xs = [.ref r] ∧ H r = some (.rng 0 (n : Int)) ∧ n ≤ 100000 ∧ ∀ l, H l = none → Q (.ref l) (upd H l (.lst ((List.range n).map fun i : Nat => V.int (i : Int))))
theorem call_listR {X : Cx} (hc : X.calm = true) : CallR X (.type "list") rListR := by
  intro pins s σ H xs us Q I r h
  obtain ⟨ra, n, rfl, hr, hn, q⟩ := h
  obtain ⟨u, rfl, ru⟩ := vals1 r
  obtain rfl : u = Value.ref ra := ru
  obtain ⟨t1, t2, t3, ho⟩ := I.hok ra _ hr
  have esz : Builtin.Range.rangeSize 0 (n : Int) 1 = ((n : Nat) : Int) := by rw [PyProof.Rows.rangeSize_nat]; omega
  have fit : ∀ x : Int, -1000000 ≤ x → x ≤ 1000000 → Builtin.Range.rangeFitsLong x = true := by
    intro x h1 h2
    unfold Builtin.Range.rangeFitsLong
    simp
    omega
  have sm : Builtin.Range.small 0 (n : Int) 1 = true := by
    unfold Builtin.Range.small
    rw [esz, fit 0 (by omega) (by omega), fit n (by omega) (by omega), fit 1 (by omega) (by omega)]
    have e : (n : Int) + (1 - 1) = n := by omega
    rw [if_pos (by decide), e, fit n (by omega) (by omega)]
    simp
  refine call_list_range (I.ok.hd hc) (a := 0) (b := (n : Int)) (c := 1) (n := n) ho sm esz (by omega) fun h' tk acc' c' kp e hac => ?_
  have esz2 : acc'.toList.length = n := hac.1
  have rel : Vals ((List.range n).map fun i : Nat => V.int (i : Int)) acc'.toList := by
    have z := vals_ix (P := fun i v => ∃ t, v = .int (0 + (i : Int) * 1) t) (g := fun i : Nat => V.int (i : Int)) (fun i v ⟨t, hv⟩ => ⟨t, by rw [hv, Int.zero_add, Int.mul_one]⟩) acc'.toList 0 fun j v hj => by
      rw [Nat.zero_add]
      exact hac.2 j v (by simpa using hj)
    rw [esz2] at z
    have e2 : (fun i : Nat => V.int (((0 + i : Nat)) : Int)) = fun i : Nat => V.int (i : Int) := by funext i; rw [Nat.zero_add]
    rw [e2] at z
    exact z
  have hz : ((List.range n).map fun i : Nat => V.int (i : Int)).length ≤ sizeLine := by
    rw [List.length_map, List.length_range]
    unfold sizeLine; omega
  exact ⟨.ref s.heap.objs.size, _, I.laid (t' := tk) kp (Nat.le_refl _) (show ObjOk X.prog X.w _ h' _ (.lst _) from ⟨hz, acc'.toList, c', rel, by simpa using e⟩), rfl, q _ (I.hok.fresh (Nat.le_refl _))⟩
end My
namespace My
open PySem PySem.Spec PyProof.Rows L2
/-! sorted of rows of whole numbers -/
abbrev Zr := Addr × List Int
def zref (z : Zr) : V := .ref z.1
def rSortRows (K : PySem.W.Frag) : List V → Hp → VK → Prop := fun vs H Q => ∃ (a : Addr) (zs : List Zr), vs = [V.ref a] ∧ SqL K H a (zs.map zref) ∧ (∀ z ∈ zs, H z.1 = some (.lst (z.2.map V.int))) ∧
  ∀ (ys : List Zr) (p : Addr), ys.Perm zs → ys.Pairwise (fun x y => x.2 ≤ y.2) → H p = none → Q (.ref p) (upd H p (.lst (ys.map zref)))
def Rz (v : Value) (z : Zr) : Prop := v = .ref z.1
theorem each_z : ∀ {zs : List Zr} {us : List Value}, Vals (zs.map zref) us → PySem.W.EachIs Rz us zs
  | [], _, .nil => .nil
  | z :: zs, _, .cons r t => .cons r (each_z t)
theorem z_each : ∀ {zs : List Zr} {us : List Value}, PySem.W.EachIs Rz us zs → Vals (zs.map zref) us
  | _, _, .nil => .nil
  | _, _, .cons r t => .cons r (z_each t)
theorem each_reads {X : Cx} {pins : List (Addr × Obj)} {σ : L2.St} {H : Hp} {s : Shared} (I : Inv X pins σ H s) : ∀ {zs : List Zr} {us : List Value}, PySem.W.EachIs Rz us zs → (∀ z ∈ zs, H z.1 = some (.lst (z.2.map V.int))) →
    PySem.W.EachIs (fun v (z : Zr) => ∃ as, Reads s.heap v (.list (z.2.map .int)) as) us zs
  | _, _, .nil, _ => .nil
  | _, _, .cons (b := z) r t, h => .cons (by
      have e := h z (List.mem_cons_self ..)
      exact Dp.reads I _ (.ref z.1) _ (dpI (ns := z.2) (SqL.of e)) r) (each_reads I t fun y hy => h y (List.mem_cons_of_mem _ hy))
theorem cr_sortRows {X : Cx} (hu : X.A.units + 64 < cLine) : CallR X (.builtin "sorted") (rSortRows X.K) := by
  intro pins s σ H vs us Q I r h
  obtain ⟨a, zs, rfl, hs, hrow, q⟩ := h
  obtain ⟨its, rv, hl, hz⟩ := I.list hs
  rw [Vals.ref1 r]
  have ea := each_z rv
  rw [List.length_map] at hz
  refine PySem.W.sorted_data (R := Rz) (enc := fun z : Zr => PyData.list (z.2.map .int)) hl.isList ea (each_reads I ea hrow) ?_ ?_ hz ?_ fun out hlo ho => ?_
  · refine PySem.W.AllAlike.of fun b b' => ?_
    show PySem.W.alike (.list _) (.list _) = true
    simp only [PySem.W.alike]
    exact PySem.W.alike_ints _ _
  · exact PySem.W.Sortable.others fun b => ⟨(fun z => nomatch z), (fun xs z => nomatch z)⟩
  · intro b hb
    have := dI_depth b.2
    have e : (PyData.list (b.2.map .int)).depth = (dI b.2).depth := rfl
    omega
  · obtain ⟨ep, he'⟩ := PyProof.Rows.sortedAll_at s.heap its out.toArray
    have hlen : ((zs.mergeSort (PySem.W.dataLe false fun z : Zr => PyData.list (z.2.map .int))).map zref).length ≤ sizeLine := by rw [List.length_map, List.length_mergeSort]; exact hz
    have free : H (s.heap.objs.size + 1) = none := I.hok.fresh (Nat.le_succ _)
    refine ⟨.ref _, upd H (s.heap.objs.size + 1) (.lst ((zs.mergeSort (PySem.W.dataLe false fun z : Zr => PyData.list (z.2.map .int))).map zref)), I.laid (t' := s.toks) (fun _ _ => PyProof.Rows.sortedAll_old) (Nat.le_succ _) ⟨hlen, out, ep, z_each ho, by simpa using he'⟩, rfl, q _ _ (List.mergeSort_perm _ _) ?_ free⟩
    rw [PySem.W.dataLe_rows]
    have z := List.pairwise_mergeSort (le := fun (a b : Zr) => decide (a.2 ≤ b.2)) (by intro a b c h1 h2; exact decide_eq_true (List.le_trans (of_decide_eq_true h1) (of_decide_eq_true h2)))
      (by intro a b; rcases List.le_total a.2 b.2 with h | h <;> simp [h]) zs
    exact z.imp fun h => of_decide_eq_true h
/-! rows cut off, turned around -/
theorem Rws.take {H : Hp} {qs : List Addr} {bs : List (List V)} (R : Rws H qs bs) (j : Nat) : Rws H (qs.take j) (bs.take j) := by
  refine ⟨by rw [List.length_take, List.length_take, R.len], R.nd.sublist (List.take_sublist ..), fun i q b e1 e2 => ?_⟩
  rw [List.getElem?_take] at e1 e2
  split at e1
  · rename_i h
    rw [if_pos h] at e2
    exact R.get i q b e1 e2
  · cases e1
theorem Rws.drop {H : Hp} {qs : List Addr} {bs : List (List V)} (R : Rws H qs bs) (j : Nat) : Rws H (qs.drop j) (bs.drop j) := by
  refine ⟨by rw [List.length_drop, List.length_drop, R.len], R.nd.sublist (List.drop_sublist ..), fun i q b e1 e2 => ?_⟩
  rw [List.getElem?_drop] at e1 e2
  exact R.get _ q b e1 e2
theorem Rws.rev {H : Hp} {qs : List Addr} {bs : List (List V)} (R : Rws H qs bs) : Rws H qs.reverse bs.reverse := by
  refine ⟨by rw [List.length_reverse, List.length_reverse, R.len], (List.reverse_perm qs).nodup_iff.mpr R.nd, fun i q b e1 e2 => ?_⟩
  have h1 := (List.getElem?_eq_some_iff.mp e1).1
  rw [List.length_reverse] at h1
  rw [List.getElem?_reverse h1] at e1
  rw [List.getElem?_reverse (by rw [← R.len]; exact h1), ← R.len] at e2
  exact R.get _ q b e1 e2
theorem Rws.cons {H : Hp} {qs : List Addr} {bs : List (List V)} {p : Addr} {b : List V} (R : Rws H qs bs) (h : H p = some (.lst b)) (n : p ∉ qs) : Rws H (p :: qs) (b :: bs) := by
  refine ⟨by rw [List.length_cons, List.length_cons, R.len], List.nodup_cons.mpr ⟨n, R.nd⟩, fun i q c e1 e2 => ?_⟩
  cases i with
  | zero =>
    rw [← Option.some.inj e1, ← Option.some.inj e2]
    exact h
  | succ i => exact R.get i q c e1 e2
theorem Rws.app {H : Hp} {qs rs : List Addr} {bs cs : List (List V)} (R : Rws H qs bs) (S : Rws H rs cs) (n : ∀ q ∈ qs, q ∉ rs) : Rws H (qs ++ rs) (bs ++ cs) := by
  refine ⟨by rw [List.length_append, List.length_append, R.len, S.len], List.nodup_append.mpr ⟨R.nd, S.nd, fun x hx y hy e => n x hx (e ▸ hy)⟩, fun i q c e1 e2 => ?_⟩
  rcases Nat.lt_or_ge i qs.length with z | z
  · rw [List.getElem?_append_left z] at e1
    rw [List.getElem?_append_left (R.len ▸ z)] at e2
    exact R.get i q c e1 e2
  · rw [List.getElem?_append_right z] at e1
    rw [List.getElem?_append_right (R.len ▸ z), ← R.len] at e2
    exact S.get _ q c e1 e2
end My
namespace My
open PySem PySem.Spec PyProof.Rows L2
/-! set(xs), xs a list of whole numbers, with all that sorted asks of it -/
section
variable {P : Program} {w : World} {A : Around} {E : Value → Shared → Prop} {s : Shared}
abbrev set0 (w : World) : Obj := { cls := .type "set", dict := none, data := .set #[] 0 (.fresh 0 0 (!w.params.followText "set-order")) }
def Filled (w : World) (s : Shared) (ns : List Int) (s2 : Shared) : Prop :=
  ∃ h' tk c, s2 = { s with heap := h', toks := tk } ∧ SetR w h' s.heap.objs.size (fun j => decide (j ∈ ns)) c ∧ c ≤ ns.length ∧ ∀ b o, s.heap.get? b = some o → h'.get? b = some o
set_option maxHeartbeats 3200000 in
theorem fill_list {l : Addr} {items : Array Value} (ns : List Int) (hh : A.handled = none) (hl : s.heap.IsList l items) (hit : IntsAre items.toList ns) (hb : ns.length + 1 < scanBound) :
    wpAny (model P w) A.in1 (Builtin.«set.__init__» ⟨[.ref s.heap.objs.size, .ref l], []⟩)
      (fun fin s' => match fin with | .done f => wants (fun r s₂ => r = .none ∧ Filled w s ns s₂) E (.ok f) s' | .again c' => c'.quiet = true ∧ codeAny (model P w) A c' (wants (fun r s₂ => r = .none ∧ Filled w s ns s₂) E) s')
      (fun e s' => wants (fun r s₂ => r = .none ∧ Filled w s ns s₂) E (.error e) s') { s with heap := s.heap.push (set0 w) } := by
  have size : items.size = ns.length := by
    have q := IntsAre.length hit
    rwa [Array.length_toList] at q
  obtain ⟨ol, hol, hcl, nl, hdl⟩ := hl
  obtain ⟨ocls, odict, odata, oslots⟩ := ol
  simp only at hcl hdl
  subst hcl; subst hdl
  have at1 : (s.heap.push (set0 w)).get? s.heap.objs.size = some (set0 w) := Heap.get?_push_size _ rfl
  have old : (s.heap.push (set0 w)).get? l = some { cls := .type "list", dict := odict, data := .seq items nl, slots := oslots } := Heap.get?_push_of_some _ hol
  have isl : (s.heap.push (set0 w)).IsList l items := ⟨_, old, rfl, nl, rfl⟩
  have low : l < s.heap.objs.size := Heap.lt_size hol
  have big : (s.heap.push (set0 w)).objs.size = s.heap.objs.size + 1 := Heap.size_push ..
  have sub1 := F.sub_list_set
  have sub2 := F.sub_list_frozenset
  have nodict : (Value.type "list" == Value.type "dict") = false := by decide
  unfold Builtin.«set.__init__» noKeywords Builtin.Frozenset.updateFrom
  generalize hPI : pyIter = PI
  wp_walk
  subst hPI
  refine wpAny_pyIter_list isl ?_
  refine wpAny_bind (wpAny_runValue ?_)
  have calm : A.in1.handled = none := by simp [hh]
  have apart : l ≠ (s.heap.push (set0 w)).objs.size := by rw [big]; exact Nat.ne_of_lt (Nat.lt_succ_of_lt low)
  have off : s.heap.objs.size ∉ [(s.heap.push (set0 w)).objs.size, l] := by
    rw [big]
    simp only [List.mem_cons, List.not_mem_nil, or_false, not_or]
    exact ⟨Nat.ne_of_lt (Nat.lt_succ_self _), Nat.ne_of_gt low⟩
  have val : ∀ (i : Nat) (v : Value), items[i]? = some v → ∃ k t, ns[i]? = some k ∧ v = .int k t := fun i v hv => by
    have hi : i < ns.length := by rw [← size]; exact (Array.getElem?_eq_some_iff.mp hv).1
    obtain ⟨t, e⟩ := PyProof.Rows.IntsAre.int_at hit i v (by rw [Array.getElem?_toList]; exact hv)
    refine ⟨ns[i], t, List.getElem?_eq_getElem hi, ?_⟩
    rw [e, List.getD_eq_getElem?_getD, List.getElem?_eq_getElem hi] <;> rfl
  refine set_update_ints ((Walks.list (by simp [hh]) _ l apart items).toS) s.heap.objs.size off ns size hb val (items.size - 0) 0 _ (by omega) (Nat.zero_le _)
    ⟨⟨_, Heap.get?_push_size _ rfl, rfl, rfl⟩, isl.push _⟩ ?gS ?gR
  case gS =>
    exact ⟨0, Nat.le_refl 0, setR_new_at (Heap.get?_push_of_some _ at1)⟩
  case gR =>
    intro s' c' hm hc' hS'
    obtain ⟨h', g2, d', tk', os'⟩ := s'
    have eg : g2 = s.gens := hm.gens
    have ed : d' = s.drawn := hm.drawn
    have eo : os' = s.os := hm.os
    subst eg; subst ed; subst eo
    show wpAny _ _ _ _ _ _
    refine wpAny_pure ?_
    show wpAny _ _ (ret Value.none) _ _ _
    rw [size] at hc'
    refine wpAny_pure ⟨rfl, h', tk', c', rfl, hS', hc', fun b o e => ?_⟩
    have b0 : b < s.heap.objs.size := Heap.lt_size e
    refine hm.heap b o ?_ (Heap.get?_push_of_some _ (Heap.get?_push_of_some _ e))
    simp only [List.mem_cons, List.not_mem_nil, or_false, not_or]
    exact ⟨Nat.ne_of_lt b0, by rw [big]; exact Nat.ne_of_lt (Nat.lt_succ_of_lt b0)⟩
set_option maxHeartbeats 3200000 in
theorem call_setL {l : Addr} {items : Array Value} (ns : List Int) {Q : Value → Shared → Prop} (hh : A.handled = none) (hl : s.heap.IsList l items) (hit : IntsAre items.toList ns) (hb : ns.length + 1 < scanBound)
    (h : ∀ (s2 : Shared), Filled w s ns s2 → Q (.ref s.heap.objs.size) s2) :
    wpAny (model P w) A (call (.type "set") [.ref l]) Q E s := by
  obtain ⟨c, tl, hmro⟩ := F.called_set.mro
  have hmade := F.called_set.made
  have hsub := F.called_set.sub
  refine wpAny_call (codeAny_of_tree ?_)
  show wpAny _ _ (callAny (.type "set") _) _ _ _
  refine wpAny_pure ⟨Code.quiet_builtin _ (by decide +kernel), codeAny_builtin F.entry_type_call ?_⟩
  rw [Around.under_plain (weight_type_call_type "set" [.ref l] []) rfl]
  have h1 := F.called_set.notType
  have h2 := F.called_set.canCreate
  have hct := F.typeCall_set_1 (.ref l)
  repeat (any_goals (first | assumption | wp_step))
  refine codeAny_mono (code_set_led1 (.ref l) (E := E) (Q₁ := fun obj s₁ => obj = .ref s.heap.objs.size ∧ s₁ = { s with heap := s.heap.push (set0 w) }) ⟨rfl, rfl⟩) fun r s₁ hr => ?_
  cases r with
  | error e => exact hr
  | ok fl =>
    cases fl with
    | ret obj =>
      obtain ⟨rfl, rfl⟩ := hr
      have hT : Shared.TypeIs { s with heap := s.heap.push (set0 w) } (.ref s.heap.objs.size) "set" := ⟨_, Heap.get?_push_size _ rfl, rfl⟩
      have hli := F.called_set.init.lookup
      have hbi := F.called_set.init.bind (.ref s.heap.objs.size)
      repeat (any_goals (first | assumption | wp_step))
      refine codeAny_mono (codeAny_call_builtin (R := wants (fun r s₂ => r = .none ∧ Filled w s ns s₂) E) F.called_set.init.plain F.entry_set_init (check_set_init_1 hT ?_)) fun r₂ s₂ hr₂ => ?_
      · exact fill_list ns (by simp [hh]) hl hit hb
      · cases r₂ with
        | error e => exact hr₂
        | ok fl₂ =>
          cases fl₂ with
          | ret r =>
            obtain ⟨rfl, hF⟩ := hr₂
            repeat (any_goals (first | assumption | wp_step))
            exact h _ hF
          | _ => exact hr₂.elim
    | _ => exact hr.elim
end
def rSetL2 (K : PySem.W.Frag) (w : World) : List V → Hp → VK → Prop := fun vs H Q => ∃ (l : Addr) (ns : List Int), vs = [.ref l] ∧ SqL K H l (ns.map V.int) ∧ ns.length < 64 ∧
  ∀ p c, H p = none → c < 64 → Q (.ref p) (upd H p (SetO w p (fun j => decide (j ∈ ns)) c))
theorem cr_setL {X : Cx} (hc : X.calm = true) : CallR X (.type "set") (rSetL2 X.K X.w) := by
  intro pins s σ H vs us Q I r h
  obtain ⟨l, ns, rfl, hq, h64, q⟩ := h
  obtain ⟨its, rv, pl, hz⟩ := I.list hq
  rw [Vals.ref1 r]
  refine call_setL ns (I.ok.hd hc) pl.isList (by simpa using rv.ints) (by unfold scanBound; omega) fun s2 hF => ?_
  obtain ⟨h', tk, c, rfl, hS, hcl, kp⟩ := hF
  exact ⟨.ref s.heap.objs.size, _, I.laid (t' := tk) kp (Nat.le_refl _) (setO_new hS), rfl, q _ c (I.hok.fresh (Nat.le_refl _)) (by omega)⟩
end My
namespace My
open PySem PySem.Spec PyProof.Rows L2 LamX
/-- nothing but a table was tracked there -/
def WF (H : Hp) (l : Addr) : Prop := ∀ o, H l = some o → ∃ ps, o = .tbl ps
theorem WF.of {H : Hp} {l : Addr} (h : H l = none) : WF H l := fun o e => by rw [h] at e; cases e
theorem WF.ext {H H' : Hp} {l : Addr} (e : ExtN H H') (h : WF H' l) : WF H l := fun o eo => by
  cases o with
  | tbl ps => exact ⟨ps, rfl⟩
  | _ =>
    have := h _ (e _ _ eo (fun ps z => nomatch z))
    exact this
theorem xlst {H H' : Hp} {a : Addr} {xs : List V} (e : ExtN H H') (h : H a = some (.lst xs)) : H' a = some (.lst xs) := e _ _ h (fun ps z => nomatch z)
theorem xtup {H H' : Hp} {a : Addr} {xs : List V} (e : ExtN H H') (h : H a = some (.tup xs)) : H' a = some (.tup xs) := e _ _ h (fun ps z => nomatch z)
theorem xsq {K : PySem.W.Frag} {H H' : Hp} {a : Addr} {xs : List V} (e : ExtN H H') (h : SqL K H a xs) : SqL K H' a xs := by
  rcases h with (h | ⟨o, h⟩) | h
  · exact Or.inl (Or.inl (xlst e h))
  · exact Or.inl (Or.inr ⟨o, e _ _ h (fun ps z => nomatch z)⟩)
  · exact Or.inr h
theorem xsm {H H' : Hp} (s : Same H H') : ExtN H H' := ExtN.of s
theorem xnw {H H' : Hp} {l : Addr} {o : HO} (e : ExtN H H') (n : H' l = none) : ExtN H (upd H' l o) := fun b u h1 h2 => by
  have h3 := e b u h1 h2
  rw [upd_ne (ne_of_none h3 n)]
  exact h3
theorem xwr {H H' : Hp} {l : Addr} {o : HO} (e : ExtN H H') (n : WF H l) : ExtN H (upd H' l o) := fun b u h1 h2 => by
  have ne : b ≠ l := fun z => by
    obtain ⟨ps, h⟩ := n u (by rw [← z]; exact h1)
    exact h2 ps h
  rw [upd_ne ne]
  exact e b u h1 h2
theorem tabs_same {T : List (Addr × Str)} {H H' : Hp} (t : Tabs T H) (s : Same H H') : Tabs T H' := t.ext s
theorem tabs_new {T : List (Addr × Str)} {H : Hp} {l : Addr} {o : HO} (t : Tabs T H) (n : H l = none) : Tabs T (upd H l o) := t.ext (sameN n)
theorem tabs_but {T : List (Addr × Str)} {H H' : Hp} {D : Addr} {xs : List V} (t : Tabs T H) (b : But D H H') (h : H D = some (.lst xs)) : Tabs T H' := by
  intro p hp
  obtain ⟨ps, h1, h2, h3⟩ := t p hp
  have n1 : p.1 ≠ D := fun z => by rw [z, h] at h1; cases h1
  refine ⟨ps, b _ _ n1 h1, h2, fun pos cv hc => ?_⟩
  obtain ⟨c, e1, e2⟩ := h3 pos cv hc
  have n2 : c ≠ D := fun z => by
    rw [z, h] at e2
    unfold CodeO at e2
    cases e2
  exact ⟨c, e1, b _ _ n2 e2⟩
theorem tabs_write {T : List (Addr × Str)} {H : Hp} {D : Addr} {xs : List V} {o : HO} (t : Tabs T H) (h : H D = some (.lst xs)) : Tabs T (upd H D o) := tabs_but t (fun b u n e => by rw [upd_ne n]; exact e) h
/-- the rows of ints as values -/
abbrev vv (bs : List (List Int)) : List (List V) := bs.map fun b => b.map V.int
theorem vv_len (bs : List (List Int)) : (vv bs).length = bs.length := List.length_map ..

/-! what a def holds in its hands -/
/-- of the kinds that are held: lists, tuples, ranges, dicts, sets -/
def Holdable : HO → Prop
  | .lst _ => True
  | .tup _ => True
  | .rng _ _ => True
  | .dK _ => True
  | .set _ _ => True
  | .frz _ _ => True
  | _ => False
theorem tabs_wr {T : List (Addr × Str)} {H : Hp} {D : Addr} {o o' : HO} (t : Tabs T H) (h : H D = some o) (n : Holdable o) : Tabs T (upd H D o') := by
  intro p hp
  obtain ⟨ps, h1, h2, h3⟩ := t p hp
  have n1 : p.1 ≠ D := fun z => by
    rw [z, h] at h1
    cases h1
    exact n
  refine ⟨ps, by rw [upd_ne n1]; exact h1, h2, fun pos cv hc => ?_⟩
  obtain ⟨c, e1, e2⟩ := h3 pos cv hc
  have n2 : c ≠ D := fun z => by
    rw [z, h] at e2
    unfold CodeO at e2
    cases e2
    exact n
  exact ⟨c, e1, by rw [upd_ne n2]; exact e2⟩
inductive Cell
  | ob (a : Addr) (o : HO)
  | pr (a : Addr) (φ : HO → Prop)
  | fm (p : Addr) (qs : List Addr) (rows : List (List V))
  | rs (qs : List Addr) (rows : List (List V))
def Cell.foot : Cell → List Addr
  | .ob a _ => [a]
  | .pr a _ => [a]
  | .fm p qs _ => p :: qs
  | .rs qs _ => qs
def Cell.ok (H : Hp) : Cell → Prop
  | .ob a o => H a = some o ∧ Holdable o
  | .pr a φ => ∃ o, H a = some o ∧ Holdable o ∧ φ o
  | .fm p qs rows => H p = some (.lst (qs.map V.ref)) ∧ Rws H qs rows
  | .rs qs rows => Rws H qs rows
def foots (L : List Cell) : List Addr := L.flatMap Cell.foot
theorem foots_sub {L L' : List Cell} (s : L'.Sublist L) : (L'.flatMap Cell.foot).Sublist (L.flatMap Cell.foot) := by
  induction s with
  | slnil => exact List.Sublist.refl _
  | cons a _ ih => exact ih.trans (List.sublist_append_right _ _)
  | cons_cons a _ ih => exact List.Sublist.append (List.Sublist.refl _) ih
theorem foots_cons (c : Cell) (L : List Cell) : foots (c :: L) = c.foot ++ foots L := rfl
theorem Rws.agree {H H' : Hp} {qs : List Addr} {bs : List (List V)} (R : Rws H qs bs) (e : ∀ a ∈ qs, H' a = H a) : Rws H' qs bs :=
  ⟨R.len, R.nd, fun j q b e1 e2 => by rw [e q (List.mem_of_getElem? e1)]; exact R.get j q b e1 e2⟩
theorem Cell.ok_agree {H H' : Hp} {c : Cell} (h : c.ok H) (e : ∀ a ∈ c.foot, H' a = H a) : c.ok H' := by
  cases c with
  | ob a o => exact ⟨by rw [e a (List.mem_singleton.mpr rfl)]; exact h.1, h.2⟩
  | pr a φ =>
    obtain ⟨o, h1, h2⟩ := h
    exact ⟨o, by rw [e a (List.mem_singleton.mpr rfl)]; exact h1, h2⟩
  | fm p qs rows => exact ⟨by rw [e p (List.mem_cons_self ..)]; exact h.1, h.2.agree fun a ha => e a (List.mem_cons_of_mem _ ha)⟩
  | rs qs rows => exact Rws.agree h e
theorem Cell.there {H : Hp} {c : Cell} (h : c.ok H) {a : Addr} (ha : a ∈ c.foot) : ∃ o, H a = some o ∧ Holdable o := by
  cases c with
  | ob b o => rw [List.mem_singleton.mp ha]; exact ⟨_, h⟩
  | pr b φ =>
    obtain ⟨o, h1, h2, _⟩ := h
    rw [List.mem_singleton.mp ha]
    exact ⟨_, h1, h2⟩
  | fm p qs rows =>
    rcases List.mem_cons.mp ha with e | e
    · rw [e]; exact ⟨_, h.1, trivial⟩
    · obtain ⟨j, b, e1, e2, e3⟩ := h.2.at' e
      exact ⟨_, e3, trivial⟩
  | rs qs rows =>
    obtain ⟨j, b, e1, e2, e3⟩ := Rws.at' h ha
    exact ⟨_, e3, trivial⟩
structure Own (H0 H : Hp) (T : List (Addr × Str)) (L : List Cell) : Prop where
  ex : ExtN H0 H
  tb : Tabs T H
  wf : ∀ a ∈ foots L, WF H0 a
  nd : (foots L).Nodup
  ok : ∀ c ∈ L, c.ok H
section
variable {H0 H H' : Hp} {T : List (Addr × Str)} {L L' : List Cell} {c : Cell} {a l p : Addr} {o o' : HO} {xs : List V} {qs : List Addr} {rows : List (List V)} {φ : HO → Prop}
theorem Own.start (t : Tabs T H) : Own H H T [] := ⟨ExtN.refl _, t, (fun _ h => nomatch h), List.nodup_nil, fun _ h => nomatch h⟩
theorem Own.fresh (B : Own H0 H T L) (n : H l = none) : l ∉ foots L := fun z => by
  obtain ⟨d, hd, hl⟩ := List.mem_flatMap.mp z
  obtain ⟨o, h, _⟩ := Cell.there (B.ok d hd) hl
  rw [n] at h
  cases h
theorem agree_upd {f : List Addr} (n : l ∉ f) : ∀ a ∈ f, upd H l o a = H a := fun a ha => upd_ne fun z => n (z ▸ ha)
theorem Own.new (B : Own H0 H T L) (n : H l = none) (h : Holdable o) : Own H0 (upd H l o) T (.ob l o :: L) := by
  have fr := B.fresh n
  refine ⟨xnw B.ex n, tabs_new B.tb n, fun b hb => ?_, ?_, fun d hd => ?_⟩
  · rcases List.mem_cons.mp hb with e | e
    · rw [e]; exact WF.ext B.ex (WF.of n)
    · exact B.wf b e
  · exact List.nodup_cons.mpr ⟨fr, B.nd⟩
  · rcases List.mem_cons.mp hd with e | e
    · rw [e]; exact ⟨upd_same, h⟩
    · exact Cell.ok_agree (B.ok d e) (agree_upd fun z => fr (List.mem_flatMap.mpr ⟨d, e, z⟩))
theorem Own.perm (B : Own H0 H T L) (p : L.Perm L') : Own H0 H T L' := by
  have pf : (foots L).Perm (foots L') := p.flatMap_right _
  exact ⟨B.ex, B.tb, fun b hb => B.wf b (pf.mem_iff.mpr hb), pf.nodup_iff.mp B.nd, fun d hd => B.ok d (p.mem_iff.mpr hd)⟩
theorem Own.sub (B : Own H0 H T L) (s : L'.Sublist L) : Own H0 H T L' := by
  have sf : (foots L').Sublist (foots L) := foots_sub s
  exact ⟨B.ex, B.tb, fun b hb => B.wf b (sf.subset hb), B.nd.sublist sf, fun d hd => B.ok d (s.subset hd)⟩
theorem Own.tail (B : Own H0 H T (c :: L)) : Own H0 H T L := B.sub (List.sublist_cons_self ..)
theorem Own.head (B : Own H0 H T (c :: L)) : c.ok H := B.ok c (List.mem_cons_self ..)
theorem Own.off (B : Own H0 H T (c :: L)) {x : Addr} (hx : x ∈ c.foot) : x ∉ foots L := by
  have h := B.nd
  rw [foots_cons] at h
  exact fun z => (List.nodup_append.mp h).2.2 x hx x z rfl
/-- the object at the head is written -/
theorem Own.wr (B : Own H0 H T (.ob a o :: L)) (h : Holdable o') : Own H0 (upd H a o') T (.ob a o' :: L) := by
  have n := B.off (x := a) (List.mem_singleton.mpr rfl)
  refine ⟨xwr B.ex (B.wf a (List.mem_cons_self ..)), tabs_wr B.tb B.head.1 B.head.2, B.wf, B.nd, fun d hd => ?_⟩
  rcases List.mem_cons.mp hd with e | e
  · rw [e]; exact ⟨upd_same, h⟩
  · exact Cell.ok_agree (B.ok d (List.mem_cons_of_mem _ e)) (agree_upd fun z => n (List.mem_flatMap.mpr ⟨d, e, z⟩))
theorem Own.wrP (B : Own H0 H T (.pr a φ :: L)) (h : Holdable o') {ψ : HO → Prop} (q : ψ o') : Own H0 (upd H a o') T (.pr a ψ :: L) := by
  have n := B.off (x := a) (List.mem_singleton.mpr rfl)
  obtain ⟨o, h1, h2, _⟩ := B.head
  refine ⟨xwr B.ex (B.wf a (List.mem_cons_self ..)), tabs_wr B.tb h1 h2, B.wf, B.nd, fun d hd => ?_⟩
  rcases List.mem_cons.mp hd with e | e
  · rw [e]; exact ⟨_, upd_same, h, q⟩
  · exact Cell.ok_agree (B.ok d (List.mem_cons_of_mem _ e)) (agree_upd fun z => n (List.mem_flatMap.mpr ⟨d, e, z⟩))
theorem Own.toP (B : Own H0 H T (.ob a o :: L)) (q : φ o) : Own H0 H T (.pr a φ :: L) :=
  ⟨B.ex, B.tb, B.wf, B.nd, fun d hd => by
    rcases List.mem_cons.mp hd with e | e
    · rw [e]; exact ⟨o, B.head.1, B.head.2, q⟩
    · exact B.ok d (List.mem_cons_of_mem _ e)⟩
theorem Own.ofP (B : Own H0 H T (.pr a φ :: L)) : ∃ o, φ o ∧ Own H0 H T (.ob a o :: L) := by
  obtain ⟨o, h1, h2, h3⟩ := B.head
  refine ⟨o, h3, B.ex, B.tb, B.wf, B.nd, fun d hd => ?_⟩
  rcases List.mem_cons.mp hd with e | e
  · rw [e]; exact ⟨h1, h2⟩
  · exact B.ok d (List.mem_cons_of_mem _ e)
/-- a row of the family at the head is written -/
theorem Own.row (B : Own H0 H T (.fm p qs rows :: L)) {j : Nat} {q : Addr} (e : qs[j]? = some q) (ys : List V) : Own H0 (upd H q (.lst ys)) T (.fm p qs (rows.set j ys) :: L) := by
  have hq : q ∈ qs := List.mem_of_getElem? e
  have n := B.off (x := q) (List.mem_cons_of_mem _ hq)
  have h0 := B.head
  have np : p ≠ q := fun z => by
    have h := B.nd
    rw [foots_cons] at h
    exact (List.nodup_cons.mp (List.nodup_append.mp h).1).1 (z ▸ hq)
  obtain ⟨o, h1, h2⟩ := Cell.there h0 (List.mem_cons_of_mem _ hq)
  refine ⟨xwr B.ex (B.wf q (List.mem_append_left _ (List.mem_cons_of_mem _ hq))), tabs_wr B.tb h1 h2, B.wf, B.nd, fun d hd => ?_⟩
  rcases List.mem_cons.mp hd with e2 | e2
  · rw [e2]; exact ⟨by rw [upd_ne np]; exact h0.1, h0.2.put e⟩
  · exact Cell.ok_agree (B.ok d (List.mem_cons_of_mem _ e2)) (agree_upd fun z => n (List.mem_flatMap.mpr ⟨d, e2, z⟩))
/-- a foreign call: all that is held stands -/
theorem Own.ext (B : Own H0 H T L) (e : ExtN H H') (t : Tabs T H') : Own H0 H' T L := by
  refine ⟨B.ex.trans e, t, B.wf, B.nd, fun d hd => Cell.ok_agree (B.ok d hd) fun b hb => ?_⟩
  obtain ⟨o, h1, h2⟩ := Cell.there (B.ok d hd) hb
  rw [h1]
  exact e b o h1 fun ps z => by rw [z] at h2; exact h2
theorem Own.same (B : Own H0 H T L) (s : Same H H') : Own H0 H' T L := B.ext (xsm s) (tabs_same B.tb s)
/-- something that a foreign call has made -/
theorem Own.add (B : Own H0 H T L) (w : WF H0 l) (nl : l ∉ foots L) (h : H l = some o) (k : Holdable o) : Own H0 H T (.ob l o :: L) := by
  refine ⟨B.ex, B.tb, fun b hb => ?_, List.nodup_cons.mpr ⟨nl, B.nd⟩, fun d hd => ?_⟩
  · rcases List.mem_cons.mp hb with e | e
    · rw [e]; exact w
    · exact B.wf b e
  · rcases List.mem_cons.mp hd with e | e
    · rw [e]; exact ⟨h, k⟩
    · exact B.ok d e
theorem Own.got (B : Own H0 H T L) (e : ExtN H H') (t : Tabs T H') (w : WF H l) (h : H' l = some o) (k : Holdable o) : Own H0 H' T (.ob l o :: L) := by
  refine (B.ext e t).add (WF.ext B.ex w) (fun z => ?_) h k
  obtain ⟨d, hd, hl⟩ := List.mem_flatMap.mp z
  obtain ⟨o2, h1, h2⟩ := Cell.there (B.ok d hd) hl
  obtain ⟨ps, e2⟩ := w o2 h1
  rw [e2] at h2
  exact h2
/-- a family that a foreign call has made -/
theorem Own.addF (B : Own H0 H T L) (s : Same H H') (hp : H p = none) (hq : ∀ q ∈ qs, H q = none) (n : p ∉ qs) (top : H' p = some (.lst (qs.map V.ref))) (R : Rws H' qs rows) : Own H0 H' T (.fm p qs rows :: L) := by
  have B2 := B.same s
  have fr : ∀ b ∈ p :: qs, H b = none := fun b hb => by
    rcases List.mem_cons.mp hb with e | e
    · rw [e]; exact hp
    · exact hq b e
  refine ⟨B2.ex, B2.tb, fun b hb => ?_, ?_, fun d hd => ?_⟩
  · rcases List.mem_append.mp hb with e | e
    · exact WF.ext B.ex (WF.of (fr b e))
    · exact B.wf b e
  · refine List.nodup_append.mpr ⟨List.nodup_cons.mpr ⟨n, R.nd⟩, B.nd, fun x hx y hy e => ?_⟩
    exact B.fresh (fr x hx) (e ▸ hy)
  · rcases List.mem_cons.mp hd with e | e
    · rw [e]; exact ⟨top, R⟩
    · exact B2.ok d e
/-- an empty list becomes a family without queues -/
theorem Own.toF0 (B : Own H0 H T (.ob p (.lst []) :: L)) : Own H0 H T (.fm p [] [] :: L) :=
  ⟨B.ex, B.tb, B.wf, B.nd, fun d hd => by
    rcases List.mem_cons.mp hd with e | e
    · rw [e]; exact ⟨B.head.1, Rws.nil⟩
    · exact B.ok d (List.mem_cons_of_mem _ e)⟩
/-- a list that is held becomes the last queue of a family -/
theorem Own.pushF (B : Own H0 H T (.ob l (.lst xs) :: .fm p qs rows :: L)) : Own H0 (upd H p (.lst (qs.map V.ref ++ [.ref l]))) T (.fm p (qs ++ [l]) (rows ++ [xs]) :: L) := by
  have hl := B.head.1
  have h1 := B.tail.head
  have nl : l ∉ foots (.fm p qs rows :: L) := B.off (x := l) (List.mem_singleton.mpr rfl)
  have npl : l ≠ p := fun z => nl (by rw [z]; exact List.mem_cons_self ..)
  have nql : l ∉ qs := fun z => nl (List.mem_append_left _ (List.mem_cons_of_mem _ z))
  have nd1 := B.tail.nd
  rw [foots_cons] at nd1
  have ndp := List.nodup_cons.mp (List.nodup_append.mp nd1).1
  have npL := B.tail.off (x := p) (List.mem_cons_self ..)
  have pf : (foots (.ob l (.lst xs) :: .fm p qs rows :: L)).Perm (foots (.fm p (qs ++ [l]) (rows ++ [xs]) :: L)) := by
    simp only [foots_cons, Cell.foot, List.cons_append, List.nil_append, List.append_assoc]
    exact (List.Perm.swap p l _).trans (List.Perm.cons p (List.perm_middle (a := l) (l₁ := qs) (l₂ := foots L)).symm)
  refine ⟨xwr B.ex (B.wf p (List.mem_cons_of_mem _ (List.mem_cons_self ..))), tabs_wr B.tb h1.1 trivial, fun b hb => B.wf b (pf.mem_iff.mpr hb), pf.nodup_iff.mp B.nd, fun d hd => ?_⟩
  · rcases List.mem_cons.mp hd with e | e
    · rw [e]
      refine ⟨by rw [upd_same, List.map_append]; rfl, ?_⟩
      refine Rws.agree (H := H) ?_ (fun a ha => upd_ne fun z => ?_)
      · refine ⟨by rw [List.length_append, List.length_append, h1.2.len]; rfl, List.nodup_append.mpr ⟨h1.2.nd, by simp, ?_⟩, ?_⟩
        · intro x hx y hy e3
          have e2 : y = l := by simpa using hy
          exact nql (e2 ▸ e3 ▸ hx)
        · intro j q b e1 e2
          rcases Nat.lt_or_ge j qs.length with z | z
          · rw [List.getElem?_append_left z] at e1
            rw [List.getElem?_append_left (h1.2.len ▸ z)] at e2
            exact h1.2.get j q b e1 e2
          · rw [List.getElem?_append_right z] at e1
            rw [List.getElem?_append_right (h1.2.len ▸ z), ← h1.2.len] at e2
            cases hk : j - qs.length with
            | zero =>
              rw [hk] at e1 e2
              cases e1
              cases e2
              exact hl
            | succ m =>
              rw [hk] at e1
              simp at e1
      · rcases List.mem_append.mp ha with y | y
        · exact ndp.1 (z ▸ y)
        · have e2 : a = l := by simpa using y
          exact npl (e2 ▸ z)
    · exact Cell.ok_agree (B.ok d (List.mem_cons_of_mem _ (List.mem_cons_of_mem _ e))) (agree_upd fun z => npL (List.mem_flatMap.mpr ⟨d, e, z⟩))
end
section
variable {H0 H H' : Hp} {T : List (Addr × Str)} {L L' : List Cell} {c : Cell} {a l p : Addr} {o o' : HO} {xs : List V} {qs : List Addr} {rows : List (List V)}
/-- the same things, told by other cells -/
theorem Own.conv {A C : List Cell} (B : Own H0 H T (A ++ L)) (f : (foots A).Perm (foots C)) (k : (∀ c ∈ A, c.ok H) → (foots A).Nodup → ∀ c ∈ C, c.ok H) : Own H0 H T (C ++ L) := by
  have e1 : foots (A ++ L) = foots A ++ foots L := List.flatMap_append
  have e2 : foots (C ++ L) = foots C ++ foots L := List.flatMap_append
  have pf : (foots (A ++ L)).Perm (foots (C ++ L)) := by rw [e1, e2]; exact f.append_right _
  have nd := B.nd
  rw [e1] at nd
  refine ⟨B.ex, B.tb, fun b hb => B.wf b (pf.mem_iff.mpr hb), pf.nodup_iff.mp B.nd, fun d hd => ?_⟩
  rcases List.mem_append.mp hd with h | h
  · exact k (fun c hc => B.ok c (List.mem_append_left _ hc)) (List.nodup_append.mp nd).1 d h
  · exact B.ok d (List.mem_append_right _ h)
theorem Own.rs0 (B : Own H0 H T L) : Own H0 H T (.rs [] [] :: L) :=
  Own.conv (A := []) (C := [.rs [] []]) B (List.Perm.refl _) fun _ _ c hc => by rw [List.mem_singleton.mp hc]; exact Rws.nil
theorem Rws.snoc {H : Hp} {qs : List Addr} {bs : List (List V)} (R : Rws H qs bs) {p : Addr} {b : List V} (h : H p = some (.lst b)) (n : p ∉ qs) : Rws H (qs ++ [p]) (bs ++ [b]) := by
  refine ⟨by rw [List.length_append, List.length_append, R.len]; rfl, List.nodup_append.mpr ⟨R.nd, by simp, ?_⟩, ?_⟩
  · intro x hx y hy e3
    have e2 : y = p := by simpa using hy
    exact n (e2 ▸ e3 ▸ hx)
  · intro j q c e1 e2
    rcases Nat.lt_or_ge j qs.length with z | z
    · rw [List.getElem?_append_left z] at e1
      rw [List.getElem?_append_left (R.len ▸ z)] at e2
      exact R.get j q c e1 e2
    · rw [List.getElem?_append_right z] at e1
      rw [List.getElem?_append_right (R.len ▸ z), ← R.len] at e2
      cases hk : j - qs.length with
      | zero =>
        rw [hk] at e1 e2
        cases e1
        cases e2
        exact h
      | succ m =>
        rw [hk] at e1
        simp at e1
theorem Own.pushR (B : Own H0 H T (.ob l (.lst xs) :: .rs qs rows :: L)) : Own H0 H T (.rs (qs ++ [l]) (rows ++ [xs]) :: L) :=
  Own.conv (A := [.ob l (.lst xs), .rs qs rows]) (C := [.rs (qs ++ [l]) (rows ++ [xs])]) B (by
    simp only [foots_cons, Cell.foot, List.cons_append, List.nil_append]
    show (l :: (qs ++ foots [])).Perm ((qs ++ [l]) ++ foots [])
    rw [show foots [] = [] from rfl, List.append_nil, List.append_nil]
    exact (List.perm_append_singleton l qs).symm) fun h nd c hc => by
      rw [List.mem_singleton.mp hc]
      refine Rws.snoc (h (.rs qs rows) (by simp)) (h (.ob l (.lst xs)) (by simp)).1 fun z => ?_
      rw [foots_cons, foots_cons] at nd
      exact (List.nodup_append.mp nd).2.2 l (List.mem_singleton.mpr rfl) l (List.mem_append_left _ z) rfl
theorem Own.closeR (B : Own H0 H T (.ob p (.lst (qs.map V.ref)) :: .rs qs rows :: L)) : Own H0 H T (.fm p qs rows :: L) :=
  Own.conv (A := [.ob p (.lst (qs.map V.ref)), .rs qs rows]) (C := [.fm p qs rows]) B (List.Perm.refl _) fun h nd c hc => by
    rw [List.mem_singleton.mp hc]
    exact ⟨(h (.ob p (.lst (qs.map V.ref))) (by simp)).1, h (.rs qs rows) (by simp)⟩
theorem Own.openR (B : Own H0 H T (.fm p qs rows :: L)) : Own H0 H T (.ob p (.lst (qs.map V.ref)) :: .rs qs rows :: L) :=
  Own.conv (C := [.ob p (.lst (qs.map V.ref)), .rs qs rows]) (A := [.fm p qs rows]) B (List.Perm.refl _) fun h nd c hc => by
    have z := h (.fm p qs rows) (by simp)
    rcases List.mem_cons.mp hc with e | e
    · rw [e]; exact ⟨z.1, trivial⟩
    · rw [List.mem_singleton.mp e]; exact z.2
end
/-! finding what is held at an address -/
class Pull (L : List Cell) (a : Addr) (c : outParam Cell) (L' : outParam (List Cell)) : Prop where
  p : L.Perm (c :: L')
instance (priority := 200) Pull.ob {a : Addr} {o : HO} {L : List Cell} : Pull (.ob a o :: L) a (.ob a o) L := ⟨List.Perm.refl _⟩
instance (priority := 200) Pull.pr {a : Addr} {φ : HO → Prop} {L : List Cell} : Pull (.pr a φ :: L) a (.pr a φ) L := ⟨List.Perm.refl _⟩
instance (priority := 200) Pull.fm {a : Addr} {qs : List Addr} {rows : List (List V)} {L : List Cell} : Pull (.fm a qs rows :: L) a (.fm a qs rows) L := ⟨List.Perm.refl _⟩
instance (priority := 100) Pull.next {a : Addr} {c d : Cell} {L L' : List Cell} [P : Pull L a c L'] : Pull (d :: L) a c (d :: L') := ⟨(P.p.cons d).trans (List.Perm.swap ..)⟩
/-- these cells, in this order, are held -/
class Arr (L L' : List Cell) : Prop where
  r : ∃ M, L.Perm (L' ++ M)
class PullC (L : List Cell) (c : Cell) (L' : outParam (List Cell)) : Prop where
  p : L.Perm (c :: L')
instance (priority := 200) PullC.here {c : Cell} {L : List Cell} : PullC (c :: L) c L := ⟨List.Perm.refl _⟩
instance (priority := 100) PullC.next {c d : Cell} {L L' : List Cell} [P : PullC L c L'] : PullC (d :: L) c (d :: L') := ⟨(P.p.cons d).trans (List.Perm.swap ..)⟩
instance (priority := 300) Arr.refl {L : List Cell} : Arr L L := ⟨[], by rw [List.append_nil]⟩
instance (priority := 250) Arr.none {L : List Cell} : Arr L [] := ⟨L, List.Perm.refl _⟩
instance (priority := 200) Arr.cons {c : Cell} {L L1 L' : List Cell} [P : PullC L c L1] [A : Arr L1 L'] : Arr L (c :: L') := by
  obtain ⟨M, p⟩ := A.r
  exact ⟨M, P.p.trans (p.cons c)⟩
instance (priority := 100) Arr.drop {c : Cell} {L L' : List Cell} [A : Arr L L'] : Arr (c :: L) L' := by
  obtain ⟨M, p⟩ := A.r
  exact ⟨c :: M, (p.cons c).trans List.perm_middle.symm⟩
section
variable {H0 H H' : Hp} {T : List (Addr × Str)} {L L' : List Cell} {c : Cell} {a l p : Addr} {o o' : HO} {xs : List V} {qs : List Addr} {rows : List (List V)} {φ : HO → Prop}
theorem Own.arr (B : Own H0 H T L) [A : Arr L L'] : Own H0 H T L' := by
  obtain ⟨M, p⟩ := A.r
  exact (B.perm p).sub (List.sublist_append_left ..)
theorem Own.pull (B : Own H0 H T L) (a : Addr) [P : Pull L a c L'] : Own H0 H T (c :: L') := B.perm P.p
theorem Own.get (B : Own H0 H T L) (a : Addr) [P : Pull L a (.ob a o) L'] : H a = some o := (B.pull a).head.1
theorem Own.getF (B : Own H0 H T L) (a : Addr) [P : Pull L a (.fm a qs rows) L'] : H a = some (.lst (qs.map V.ref)) := (B.pull a).head.1
theorem Own.rowsF (B : Own H0 H T L) (a : Addr) [P : Pull L a (.fm a qs rows) L'] : Rws H qs rows := (B.pull a).head.2
end
end My
namespace My
open PySem PySem.Spec PyProof.Rows L2 LamX
/-! steps through a reading, over what is held -/
def rLenK (K : PySem.W.Frag) : List V → Hp → VK → Prop := fun xs H Q => ∃ p ys, xs = [.ref p] ∧ (SqL K H p ys ∨ SqT K H p ys) ∧ Q (.int ys.length) H
theorem cl_len {X : Cx} : CallR X (.builtin "len") (rLenK X.K) := call_len_seq
def rMx2 : List V → Hp → VK → Prop := fun xs H Q => ∃ i j, xs = [.int i, .int j] ∧ Q (.int (if j > i then j else i)) H
theorem cl_max2 {X : Cx} (hc : X.calm = true) : CallR X (.builtin "max") rMx2 := call_max2 hc
def rMn2 : List V → Hp → VK → Prop := fun xs H Q => ∃ i j, xs = [.int i, .int j] ∧ Q (.int (if j < i then j else i)) H
theorem cl_min2 {X : Cx} (hc : X.calm = true) : CallR X (.builtin "min") rMn2 := call_min2 hc
def rLsK (K : PySem.W.Frag) : List V → Hp → VK → Prop := fun xs H Q => ∃ p ys, xs = [.ref p] ∧ (SqL K H p ys ∨ SqT K H p ys) ∧ ∀ l, H l = none → Q (.ref l) (upd H l (.lst ys))
theorem cl_list {X : Cx} : CallR X (.type "list") (rLsK X.K) := call_list_of
def rAbs : List V → Hp → VK → Prop := fun xs H Q => ∃ i, xs = [.int i] ∧ Q (.int (if i < 0 then -i else i)) H
theorem cl_abs {X : Cx} : CallR X (.builtin "abs") rAbs := call_abs
def rIntB : List V → Hp → VK → Prop := fun xs H Q => (∃ i, xs = [.int i] ∧ Q (.int i) H) ∨ ∃ k, xs = [.bl k] ∧ Q (.int (if k then 1 else 0)) H
theorem cl_int {X : Cx} : CallR X (.type "int") rIntB := call_int1
section
variable {K : PySem.W.Frag} {H0 H H' : Hp} {T : List (Addr × Str)} {L L' : List Cell} {a p l q : Addr} {o : HO} {xs ys : List V} {qs : List Addr} {rows : List (List V)} {σ : L2.St} {Q : VK} {E : XK} {D : Ends} {v x y : V} {R : Prop}
  {i j : Int} {n : Nat} {ta tb te : TE} {tt tu : TT} {t tr : TA} {r : R2} {b c : Bool} {Qb : Bool → Hp → Prop} {Ql : List V → Hp → Prop} {g : TG} {s u : TS} {wi : TI}
theorem s_var {i : Nat} (h : σ[i]? = some (some v)) (k : Q v H) : tVar i σ H Q := ⟨v, h, k⟩
theorem s_C (k : Q v H) : tC v σ H Q := k
theorem s_op (k : ta σ H fun x H1 => tb σ H1 fun y H2 => r x y H2 Q) : tOp r ta tb σ H Q := k
theorem s_un {r : V → Hp → VK → Prop} (k : ta σ H fun x H1 => r x H1 Q) : tUn r ta σ H Q := k
theorem s_i0 {g : Int → Int → V} (k : Q (g i j) H) : rI0 g (.int i) (.int j) H Q := ⟨i, j, rfl, rfl, k⟩
theorem s_i {C : Int → Int → Prop} {g : Int → Int → V} (c : C i j) (k : Q (g i j) H) : rI C g (.int i) (.int j) H Q := ⟨i, j, rfl, rfl, c, k⟩
theorem s_u {g : Int → V} (k : Q (g i) H) : rU g (.int i) H Q := ⟨i, rfl, k⟩
theorem s_eqI (k : Q (.bl (decide (i = j))) H) : rEq (.int i) (.int j) H Q := ⟨rfl, by
  have e : decide (V.int i = V.int j) = decide (i = j) := by rw [Bool.eq_iff_iff]; simp
  rw [e]; exact k⟩
theorem s_neI (k : Q (.bl (!decide (i = j))) H) : rNe (.int i) (.int j) H Q := ⟨rfl, by
  have e : decide (V.int i = V.int j) = decide (i = j) := by rw [Bool.eq_iff_iff]; simp
  rw [e]; exact k⟩
theorem s_isB (k : Q (.bl (decide (b = c))) H) : rIsB (.bl b) (.bl c) H Q := ⟨b, c, rfl, rfl, k⟩
theorem s_notB (k : Q (.bl (!decide (b = c))) H) : rNotB (.bl b) (.bl c) H Q := ⟨b, c, rfl, rfl, k⟩
theorem s_test (k : te σ H fun x H1 => ∃ b, x = .bl b ∧ Qb b H1) : tTest te σ H Qb := k
theorem s_tB (k : te σ H fun x H1 => ∃ b, x = .bl b ∧ Qb b H1) : tB te σ H Qb := k
theorem s_bl (k : Qb b H) : ∃ b', V.bl b = .bl b' ∧ Qb b' H := ⟨b, rfl, k⟩
theorem s_and (k : tt σ H fun c H1 => if c = true then tu σ H1 Qb else Qb false H1) : tAnd tt tu σ H Qb := k
theorem s_or (k : tt σ H fun c H1 => if c = true then Qb true H1 else tu σ H1 Qb) : tOr tt tu σ H Qb := k
theorem s_not (k : tt σ H fun c H1 => Qb (!c) H1) : tNot tt σ H Qb := k
theorem s_andV (k : ta σ H fun x H1 => ∃ c, x = .bl c ∧ if c = true then tb σ H1 Q else Q (.bl false) H1) : tAndV ta tb σ H Q := k
theorem s_orV (k : ta σ H fun x H1 => ∃ c, x = .bl c ∧ if c = true then Q (.bl true) H1 else tb σ H1 Q) : tOrV ta tb σ H Q := k
theorem s_notV (k : ta σ H fun x H1 => ∃ c, x = .bl c ∧ Q (.bl (!c)) H1) : tNotV ta σ H Q := k
theorem s_blV {F : Bool → Prop} (k : F b) : ∃ b', V.bl b = .bl b' ∧ F b' := ⟨b, rfl, k⟩
theorem s_ifx (k : tt σ H fun c H1 => if c = true then ta σ H1 Q else tb σ H1 Q) : tIf tt ta tb σ H Q := k
theorem s_nil (k : Ql [] H) : tNil σ H Ql := k
theorem s_cons (k : ta σ H fun x H1 => tr σ H1 fun xs H2 => Ql (x :: xs) H2) : tCons ta tr σ H Ql := k
theorem s_cb {r : List V → Hp → VK → Prop} (k : t σ H fun vs H1 => r vs H1 Q) : tCB r t σ H Q := k
theorem s_call {sp : Sp} (k : t σ H fun vs H1 => sp vs H1 Q E) : tCall sp [] E t σ H Q := by
  have e : (fun vs H1 => sp (vs ++ []) H1 Q E) = fun vs H1 => sp vs H1 Q E := by funext vs H1; rw [List.append_nil]
  show t σ H fun vs H1 => sp (vs ++ []) H1 Q E
  rw [e]
  exact k
def NewL (xs : List V) (H : Hp) (Q : VK) : Prop := xs.length ≤ sizeLine ∧ ∀ p, H p = none → Q (.ref p) (upd H p (.lst xs))
def NewT (xs : List V) (H : Hp) (Q : VK) : Prop := xs.length ≤ sizeLine ∧ ∀ p, H p = none → Q (.ref p) (upd H p (.tup xs))
theorem s_lst (k : t σ H fun xs H1 => NewL xs H1 Q) : tLst t σ H Q := k
theorem s_tup (k : t σ H fun xs H1 => NewT xs H1 Q) : tTup t σ H Q := k
theorem s_newL (B : Own H0 H T L) (h : xs.length ≤ sizeLine) (k : ∀ p H', Own H0 H' T (.ob p (.lst xs) :: L) → Q (.ref p) H') : NewL xs H Q := ⟨h, fun p n => k p _ (B.new n trivial)⟩
theorem s_newT (B : Own H0 H T L) (h : xs.length ≤ sizeLine) (k : ∀ p H', Own H0 H' T (.ob p (.tup xs) :: L) → Q (.ref p) H') : NewT xs H Q := ⟨h, fun p n => k p _ (B.new n trivial)⟩
/-! reading lists -/
theorem s_ix (B : Own H0 H T L) [P : Pull L a (.ob a (.lst xs)) L'] (h : atI xs i = some v) (k : Q v H) : rIxL K (.ref a) (.int i) H Q := ⟨a, xs, i, v, rfl, rfl, SqL.of (B.get a), h, k⟩
theorem s_ixN (B : Own H0 H T L) [P : Pull L a (.ob a (.lst xs)) L'] (h : xs[n]? = some v) (k : Q v H) : rIxL K (.ref a) (.int (n : Int)) H Q := ⟨a, xs, _, v, rfl, rfl, SqL.of (B.get a), atI_nat h, k⟩
theorem s_ixF (B : Own H0 H T L) [P : Pull L p (.fm p qs rows) L'] (h : qs[n]? = some q) (k : Q (.ref q) H) : rIxL K (.ref p) (.int (n : Int)) H Q :=
  ⟨p, _, _, _, rfl, rfl, SqL.of (B.getF p), atI_nat (by rw [List.getElem?_map, h]; rfl), k⟩
theorem s_ixS (h : SqL K H a xs) (e : atI xs i = some v) (k : Q v H) : rIxL K (.ref a) (.int i) H Q := ⟨a, xs, i, v, rfl, rfl, h, e, k⟩
theorem s_ixT (B : Own H0 H T L) [P : Pull L a (.ob a (.tup xs)) L'] (h : atI xs i = some v) (k : Q v H) : rIxT K (.ref a) (.int i) H Q := ⟨a, xs, i, v, rfl, rfl, SqT.of (B.get a), h, k⟩
theorem s_len (B : Own H0 H T L) [P : Pull L a (.ob a (.lst xs)) L'] (k : Q (.int (xs.length : Int)) H) : rLenK K [.ref a] H Q := ⟨a, xs, rfl, .inl (SqL.of (B.get a)), k⟩
theorem s_lenF (B : Own H0 H T L) [P : Pull L p (.fm p qs rows) L'] (k : Q (.int (qs.length : Int)) H) : rLenK K [.ref p] H Q := by
  refine ⟨p, _, rfl, .inl (SqL.of (B.getF p)), ?_⟩
  rw [List.length_map]; exact k
theorem s_lenS (h : SqL K H a xs) (k : Q (.int (xs.length : Int)) H) : rLenK K [.ref a] H Q := ⟨a, xs, rfl, .inl h, k⟩
theorem s_max2 (k : Q (.int (if j > i then j else i)) H) : rMx2 [.int i, .int j] H Q := ⟨i, j, rfl, k⟩
theorem s_min2 (k : Q (.int (if j < i then j else i)) H) : rMn2 [.int i, .int j] H Q := ⟨i, j, rfl, k⟩
theorem s_abs (k : Q (.int (if i < 0 then -i else i)) H) : rAbs [.int i] H Q := ⟨i, rfl, k⟩
theorem s_intB (k : Q (.int (if b then 1 else 0)) H) : rIntB [.bl b] H Q := .inr ⟨b, rfl, k⟩
theorem s_list (B : Own H0 H T L) (h : H a = some (.lst xs)) (k : ∀ p H', Own H0 H' T (.ob p (.lst xs) :: L) → Q (.ref p) H') : rLsK K [.ref a] H Q := ⟨a, xs, rfl, .inl (SqL.of h), fun p n => k p _ (B.new n trivial)⟩
/-! writing lists -/
theorem s_bm {Tn : String} {r : V → List V → Hp → VK → Prop} (k : te σ H fun x H1 => tyV K Tn x H1 ∧ t σ H1 fun xs H2 => r x xs H2 Q) : tBM K Tn r te t σ H Q := k
theorem s_bm0 {Tn : String} {r : V → List V → Hp → VK → Prop} (k : te σ H fun x H1 => tyV K Tn x H1 ∧ r x [] H1 Q) : tBM0 K Tn r te σ H Q := k
theorem s_ty (B : Own H0 H T L) [P : Pull L a (.ob a (.lst xs)) L'] (k : R) : tyV K "list" (.ref a) H ∧ R := ⟨.inl ⟨rfl, _, SqL.of (B.get a)⟩, k⟩
theorem s_tyF (B : Own H0 H T L) [P : Pull L p (.fm p qs rows) L'] (k : R) : tyV K "list" (.ref p) H ∧ R := ⟨.inl ⟨rfl, _, SqL.of (B.getF p)⟩, k⟩
theorem Own.rowAt (B : Own H0 H T L) (p : Addr) [P : Pull L p (.fm p qs rows) L'] (h : qs[n]? = some q) (h2 : rows[n]? = some xs) : H q = some (.lst xs) := (B.rowsF p).get n q xs h h2
theorem s_tyH (h : H a = some (.lst xs)) (k : R) : tyV K "list" (.ref a) H ∧ R := ⟨.inl ⟨rfl, _, SqL.of h⟩, k⟩
theorem s_append (B : Own H0 H T L) [P : Pull L a (.ob a (.lst xs)) L'] (h : xs.length < sizeLine) (k : ∀ H', Own H0 H' T (.ob a (.lst (xs ++ [y])) :: L') → Q .non H') : rAppend (.ref a) [y] H Q :=
  ⟨a, xs, y, rfl, rfl, B.get a, h, k _ ((B.pull a).wr trivial)⟩
theorem s_appendR (B : Own H0 H T L) (p : Addr) [P : Pull L p (.fm p qs rows) L'] (h1 : qs[n]? = some q) (h2 : rows[n]? = some xs) (h : xs.length < sizeLine)
    (k : ∀ H', Own H0 H' T (.fm p qs (rows.set n (xs ++ [y])) :: L') → Q .non H') : rAppend (.ref q) [y] H Q :=
  ⟨q, xs, y, rfl, rfl, B.rowAt p h1 h2, h, k _ ((B.pull p).row h1 _)⟩
theorem s_appendF (B : Own H0 H T L) (p l : Addr) {L1 : List Cell} [P1 : Pull L p (.fm p qs rows) L1] [P2 : Pull L1 l (.ob l (.lst xs)) L'] (h : qs.length < sizeLine)
    (k : ∀ H', Own H0 H' T (.fm p (qs ++ [l]) (rows ++ [xs]) :: L') → Q .non H') : rAppend (.ref p) [.ref l] H Q := by
  have B2 : Own H0 H T (.ob l (.lst xs) :: .fm p qs rows :: L') := B.perm (P1.p.trans ((P2.p.cons _).trans (List.Perm.swap ..)))
  exact ⟨p, _, _, rfl, rfl, B.getF p, by rw [List.length_map]; exact h, k _ B2.pushF⟩
theorem s_extend (B : Own H0 H T L) [P : Pull L a (.ob a (.lst xs)) L'] (h2 : H l = some (.lst ys)) (h : xs.length + ys.length ≤ sizeLine) (k : ∀ H', Own H0 H' T (.ob a (.lst (xs ++ ys)) :: L') → Q .non H') : rExtend (.ref a) [.ref l] H Q :=
  ⟨a, l, xs, ys, rfl, rfl, B.get a, h2, h, k _ ((B.pull a).wr trivial)⟩
theorem s_extendR (B : Own H0 H T L) (p : Addr) [P : Pull L p (.fm p qs rows) L'] (h1 : qs[n]? = some q) (h3 : rows[n]? = some xs) (h2 : H l = some (.lst ys)) (h : xs.length + ys.length ≤ sizeLine)
    (k : ∀ H', Own H0 H' T (.fm p qs (rows.set n (xs ++ ys)) :: L') → Q .non H') : rExtend (.ref q) [.ref l] H Q :=
  ⟨q, l, xs, ys, rfl, rfl, B.rowAt p h1 h3, h2, h, k _ ((B.pull p).row h1 _)⟩
theorem s_popAt (B : Own H0 H T L) [P : Pull L a (.ob a (.lst xs)) L'] (h0 : (n : Int) < 2 ^ 63) (h : xs[n]? = some y) (k : ∀ H', Own H0 H' T (.ob a (.lst (xs.eraseIdx n)) :: L') → Q y H') : rPopAt (.ref a) [.int (n : Int)] H Q := by
  have hl := (List.getElem?_eq_some_iff.mp h).1
  refine ⟨a, xs, n, n, y, rfl, rfl, B.get a, by omega, h0, ?_, h, k _ ((B.pull a).wr trivial)⟩
  unfold seqIndex?
  have e0 : ¬ ((n : Int) < 0) := by omega
  have e1 : (n : Int) < (xs.length : Int) := by omega
  simp [e0, e1]
theorem s_popR (B : Own H0 H T L) (p : Addr) [P : Pull L p (.fm p qs rows) L'] (h1 : qs[n]? = some q) (h2 : rows[n]? = some xs) (h : xs[xs.length - 1]? = some y)
    (k : ∀ H', Own H0 H' T (.fm p qs (rows.set n xs.dropLast) :: L') → Q y H') : rPop (.ref q) [] H Q :=
  ⟨q, xs, y, rfl, rfl, B.rowAt p h1 h2, h, k _ ((B.pull p).row h1 _)⟩
theorem s_popAtR (B : Own H0 H T L) (p : Addr) [P : Pull L p (.fm p qs rows) L'] {m : Nat} (h1 : qs[n]? = some q) (h2 : rows[n]? = some xs) (h0 : (m : Int) < 2 ^ 63) (h : xs[m]? = some y)
    (k : ∀ H', Own H0 H' T (.fm p qs (rows.set n (xs.eraseIdx m)) :: L') → Q y H') : rPopAt (.ref q) [.int (m : Int)] H Q := by
  have hl := (List.getElem?_eq_some_iff.mp h).1
  refine ⟨q, xs, m, m, y, rfl, rfl, B.rowAt p h1 h2, by omega, h0, ?_, h, k _ ((B.pull p).row h1 _)⟩
  unfold seqIndex?
  have e0 : ¬ ((m : Int) < 0) := by omega
  have e1 : (m : Int) < (xs.length : Int) := by omega
  simp [e0, e1]
theorem s_cat (B : Own H0 H T L) (h1 : H a = some (.lst xs)) (h2 : H l = some (.lst ys)) (h : xs.length + ys.length ≤ sizeLine) (k : ∀ p H', Own H0 H' T (.ob p (.lst (xs ++ ys)) :: L) → Q (.ref p) H') : rCat (.ref a) (.ref l) H Q :=
  ⟨a, l, xs, ys, rfl, rfl, h1, h2, h, fun p n => k p _ (B.new n trivial)⟩
def RevAt (K : PySem.W.Frag) (x : V) (H : Hp) (Q : VK) : Prop := ∃ a xs, x = .ref a ∧ SqL K H a xs ∧ ∀ p, H p = none → Q (.ref p) (upd H p (.lst xs.reverse))
theorem s_revL (k : te σ H fun x H1 => RevAt K x H1 Q) : tRevL K te σ H Q := k
theorem s_rev (B : Own H0 H T L) [P : Pull L a (.ob a (.lst xs)) L'] (k : ∀ p H', Own H0 H' T (.ob p (.lst xs.reverse) :: L) → Q (.ref p) H') : RevAt K (.ref a) H Q := ⟨a, xs, rfl, SqL.of (B.get a), fun p n => k p _ (B.new n trivial)⟩
theorem s_sort {ns : List Int} (B : Own H0 H T L) [P : Pull L a (.ob a (.lst (ns.map V.int))) L'] (k : ∀ (ns' : List Int) p H', ns'.Perm ns → ns'.Pairwise (· ≤ ·) → Own H0 H' T (.ob p (.lst (ns'.map V.int)) :: L) → Q (.ref p) H') : rSortA K [.ref a] H Q :=
  ⟨a, ns, rfl, SqL.of (B.get a), fun ns' p pe so n => k ns' p _ pe so (B.new n trivial)⟩
/-! statements -/
theorem s_next : D.nx σ H → tNext D σ H := id
theorem s_seq (k : s { D with nx := u D } σ H) : tSeq s u D σ H := k
theorem s_asg (k : te σ H fun x H1 => g x σ H1 D.nx) : tAsg te g D σ H := k
theorem s_gn {i : Nat} {Qs : L2.St → Hp → Prop} (k : Qs (σ.set i (some v)) H) : gName i v σ H Qs := k
theorem s_drop (k : te σ H fun _ H1 => D.nx σ H1) : tDrop te D σ H := k
theorem s_ret (k : te σ H D.rt) : tRet te D σ H := k
theorem s_ifs (k : tt σ H fun b H1 => if b = true then s D σ H1 else u D σ H1) : tIfS tt s u D σ H := k
theorem s_brk (k : D.bk σ H) : tBreak D σ H := k
theorem s_cnt (k : D.ct σ H) : tCont D σ H := k
def ParAt (i j : Nat) (D : Ends) (σ : L2.St) (vs : List V) (H : Hp) : Prop := ∃ v w, vs = [v, w] ∧ D.nx ((σ.set i (some v)).set j (some w)) H
theorem s_parS {i j : Nat} (k : t σ H fun vs H1 => ParAt i j D σ vs H1) : tPar i j t D σ H := k
theorem s_par {i j : Nat} (k : D.nx ((σ.set i (some x)).set j (some y)) H) : ParAt i j D σ [x, y] H := ⟨x, y, rfl, k⟩
theorem s_gt {t : TGs} {Qs : L2.St → Hp → Prop} (B : Own H0 H T L) [P : Pull L a (.ob a (.tup xs)) L'] (h : xs.length = n) (k : t xs σ H Qs) : gTup K n t (.ref a) σ H Qs := ⟨a, xs, rfl, SqT.of (B.get a), h, k⟩
theorem s_gc {t : TG} {u : TGs} {Qs : L2.St → Hp → Prop} (k : t x σ H fun σ' H' => u xs σ' H' Qs) : gCons t u (x :: xs) σ H Qs := ⟨x, xs, rfl, k⟩
theorem s_gnil {Qs : L2.St → Hp → Prop} (k : Qs σ H) : gNil [] σ H Qs := ⟨rfl, k⟩
def SetAt (ti : TE) (t : TSet) (v : V) (σ : L2.St) (Q : L2.St → Hp → Prop) (o : V) (H1 : Hp) : Prop := ti σ H1 fun i H2 => t o i v H2 fun H3 => Q σ H3
theorem s_gsub {to ti : TE} {t : TSet} {Qs : L2.St → Hp → Prop} (k : to σ H fun o H1 => ti σ H1 fun i H2 => t o i v H2 fun H3 => Qs σ H3) : gSub to ti t v σ H Qs := k
theorem s_setL {Qh : Hp → Prop} (B : Own H0 H T L) [P : Pull L a (.ob a (.lst xs)) L'] (h : n < xs.length) (k : ∀ H', Own H0 H' T (.ob a (.lst (xs.set n v)) :: L') → Qh H') : rSetL (.ref a) (.int (n : Int)) v H Qh := by
  refine ⟨a, xs, n, n, rfl, rfl, B.get a, ?_, k _ ((B.pull a).wr trivial)⟩
  unfold ixN
  have e0 : ¬ ((n : Int) < 0) := by omega
  have e1 : (n : Int) < (xs.length : Int) := by omega
  simp [e0, e1]
/-! iterations -/
def ItL (K : PySem.W.Frag) (x : V) (H : Hp) (R : It → Hp → Prop) : Prop := ∃ a, x = .ref a ∧ (∃ xs, SqL K H a xs) ∧ R (Itl K a) H
theorem s_iList {R : It → Hp → Prop} (k : te σ H fun x H1 => ItL K x H1 R) : iList K te σ H R := k
theorem s_itH {R : It → Hp → Prop} (h : H a = some (.lst xs)) (k : R (Itl K a) H) : ItL K (.ref a) H R := ⟨a, rfl, ⟨_, SqL.of h⟩, k⟩
theorem s_itS {R : It → Hp → Prop} (h : SqL K H a xs) (k : R (Itl K a) H) : ItL K (.ref a) H R := ⟨a, rfl, ⟨_, h⟩, k⟩
def ItR (vs : List V) (H : Hp) (R : It → Hp → Prop) : Prop := ∃ j : Int, vs = [.int j] ∧ -(2 ^ 62) ≤ j ∧ j < 2 ^ 62 ∧ R (Itr 0 j.toNat) H
theorem s_iRng {R : It → Hp → Prop} (k : t σ H fun vs H1 => ItR vs H1 R) : iRng1 t σ H R := k
theorem s_itR {R : It → Hp → Prop} (h0 : -(2 ^ 62) ≤ i) (h1 : i < 2 ^ 62) (k : R (Itr 0 i.toNat) H) : ItR [.int i] H R := ⟨i, rfl, h0, h1, k⟩
def ItE (K : PySem.W.Frag) (vs : List V) (H : Hp) (R : It → Hp → Prop) : Prop := ∃ a xs, vs = [.ref a] ∧ SqL K H a xs ∧ R (Ite K a) H
theorem s_iEnum {R : It → Hp → Prop} (k : t σ H fun vs H1 => ItE K vs H1 R) : iEnum K t σ H R := k
theorem s_itE {R : It → Hp → Prop} (h : H a = some (.lst xs)) (k : R (Ite K a) H) : ItE K [.ref a] H R := ⟨a, xs, rfl, SqL.of h, k⟩
def ForG (J : It) (g : TG) (tb : TS) (D : Ends) (σ : L2.St) (H : Hp) : Prop := ∃ W : Nat → Nat → L2.St → Hp → Prop, (∃ m, W 0 m σ H) ∧ ∀ i m σ H, W i m σ H →
  (J.stop i H ∧ D.nx σ H) ∨ (J.go i H ∧ ∃ N : L2.St → Hp → Prop, (∀ σ' H', N σ' H' → ∃ m', m' < m ∧ W (i + 1) m' σ' H') ∧ ∀ x H', J.yld i H x H' → g x σ H' fun σ2 H2 => tb { D with nx := N, ct := N, bk := D.nx } σ2 H2)
theorem s_for (k : wi σ H fun J H1 => ForG J g s D σ H1) : tFor wi g s D σ H := k
/-- an invariant over what is held -/
def Inn (H0 : Hp) (T : List (Addr × Str)) (Pv : L2.St → List Cell → Prop) : L2.St → Hp → Prop := fun σ H => ∃ L, Pv σ L ∧ Own H0 H T L
theorem Inn.mk {Pv : L2.St → List Cell → Prop} {M : List Cell} (B : Own H0 H T L) [A : Arr L M] (h : Pv σ M) : Inn H0 T Pv σ H := ⟨M, h, B.arr⟩
theorem s_forL (Pv : Nat → L2.St → List Cell → Prop) (xs : List V) (B : Own H0 H T L) (start : Pv 0 σ L) (stays : ∀ i σ L H, Pv i σ L → Own H0 H T L → SqL K H a xs)
    (turn : ∀ i x σ L H, xs[i]? = some x → Pv i σ L → Own H0 H T L → g x σ H fun σ2 H2 => s { D with nx := Inn H0 T (Pv (i + 1)), ct := Inn H0 T (Pv (i + 1)), bk := D.nx } σ2 H2)
    (last : ∀ σ L H, Pv xs.length σ L → Own H0 H T L → D.nx σ H) : ForG (Itl K a) g s D σ H :=
  for_list (K := K) (a := a) (xs := xs) (fun i => Inn H0 T (Pv i)) ⟨L, start, B⟩ (fun i σ H _ ⟨L, h, B⟩ => stays i σ L H h B) (fun i x σ H hx ⟨L, h, B⟩ => turn i x σ L H hx h B) (fun σ H ⟨L, h, B⟩ => last σ L H h B)
theorem s_forR (Pv : Nat → L2.St → List Cell → Prop) (B : Own H0 H T L) (start : Pv 0 σ L)
    (turn : ∀ i σ L H, i < n → Pv i σ L → Own H0 H T L → g (.int (i : Int)) σ H fun σ2 H2 => s { D with nx := Inn H0 T (Pv (i + 1)), ct := Inn H0 T (Pv (i + 1)), bk := D.nx } σ2 H2)
    (last : ∀ σ L H, Pv n σ L → Own H0 H T L → D.nx σ H) : ForG (Itr 0 n) g s D σ H :=
  for_range (lo := 0) (n := n) (fun i => Inn H0 T (Pv i)) ⟨L, start, B⟩ (fun i σ H hi ⟨L, h, B⟩ => by rw [Int.zero_add]; exact turn i σ L H hi h B) (fun σ H ⟨L, h, B⟩ => last σ L H h B)
/-- for i, x in enumerate(xs) -/
theorem s_forE {k1 k2 : Nat} (Pv : Nat → L2.St → List Cell → Prop) (xs : List V) (B : Own H0 H T L) (start : Pv 0 σ L) (stays : ∀ i σ L H, Pv i σ L → Own H0 H T L → SqL K H a xs)
    (turn : ∀ i x σ L H, xs[i]? = some x → Pv i σ L → Own H0 H T L → s { D with nx := Inn H0 T (Pv (i + 1)), ct := Inn H0 T (Pv (i + 1)), bk := D.nx } ((σ.set k1 (some (.int (i : Int)))).set k2 (some x)) H)
    (last : ∀ σ L H, Pv xs.length σ L → Own H0 H T L → D.nx σ H) : ForG (Ite K a) (gTup K 2 (gCons (gName k1) (gCons (gName k2) gNil))) s D σ H :=
  for_en (K := K) (a := a) (xs := xs) (fun i => Inn H0 T (Pv i)) ⟨L, start, B⟩ (fun i σ H _ ⟨L, h, B⟩ => stays i σ L H h B)
    (fun i x σ H tp hx ⟨L, h, B⟩ n => ⟨tp, _, rfl, SqT.of upd_same, rfl, _, _, rfl, _, _, rfl, rfl, turn i x σ L _ hx h (B.new (o := .tup [.int (i : Nat), x]) n trivial).tail⟩) (fun σ H ⟨L, h, B⟩ => last σ L H h B)
/-! comprehensions -/
def LcG (J : It) (g : TG) (tt : TT) (te : TE) (vs : List Nat) (σ : L2.St) (Q : VK) (H1 : Hp) : Prop := ∀ D, H1 D = none → ∃ W : Nat → Nat → Hp → Prop, (∃ m, W 0 m (upd H1 D (.lst []))) ∧ ∀ i m H, W i m H →
  (J.stop i H ∧ Q (.ref D) H) ∨ (J.go i H ∧ ∃ Nx : Hp → Prop, (∀ H', Nx H' → ∃ m', m' < m ∧ W (i + 1) m' H') ∧ ∀ x H', J.yld i H x H' → g x (wipe σ vs) H' fun σ2 H2 => wipe σ2 vs = wipe σ vs ∧ tt σ2 H2 fun b H3 =>
    if b = true then te σ2 H3 fun y H4 => ∃ acc, H4 D = some (.lst acc) ∧ acc.length < sizeLine ∧ Nx (upd H4 D (.lst (acc ++ [y]))) else Nx H3)
theorem s_lc {vs : List Nat} (k : wi σ H fun J H1 => LcG J g tt te vs σ Q H1) : tLc wi g tt te vs σ H Q := k
/-- the element behind what stands already -/
def El (H0 : Hp) (T : List (Addr × Str)) (D : Addr) (Pv : List V → List Cell → Prop) : VK := fun y H => ∃ acc L, acc.length < sizeLine ∧ Own H0 H T (.ob D (.lst acc) :: L) ∧ Pv (acc ++ [y]) L
/-- nothing is added -/
def NoEl (H0 : Hp) (T : List (Addr × Str)) (D : Addr) (Pv : List V → List Cell → Prop) : Hp → Prop := fun H => ∃ acc L, Own H0 H T (.ob D (.lst acc) :: L) ∧ Pv acc L
theorem Own.arrT {c : Cell} (B : Own H0 H T (c :: L)) {M : List Cell} [A : Arr L M] : Own H0 H T (c :: M) := by
  obtain ⟨N, p⟩ := A.r
  exact (B.perm (p.cons c)).sub ((List.sublist_append_left ..).cons_cons c)
theorem El.mk {acc : List V} {Pv : List V → List Cell → Prop} {M : List Cell} (B : Own H0 H T L) [P : Pull L a (.ob a (.lst acc)) L'] [A : Arr L' M] (hl : acc.length < sizeLine) (h : Pv (acc ++ [y]) M) : El H0 T a Pv y H := ⟨acc, M, hl, (B.pull a).arrT, h⟩
theorem NoEl.mk {acc : List V} {Pv : List V → List Cell → Prop} {M : List Cell} (B : Own H0 H T L) [P : Pull L a (.ob a (.lst acc)) L'] [A : Arr L' M] (h : Pv acc M) : NoEl H0 T a Pv H := ⟨acc, M, (B.pull a).arrT, h⟩
theorem El.use {D : Addr} {Pv : List V → List Cell → Prop} {y : V} {H : Hp} (h : El H0 T D Pv y H) : ∃ acc, H D = some (.lst acc) ∧ acc.length < sizeLine ∧ NoEl H0 T D Pv (upd H D (.lst (acc ++ [y]))) := by
  obtain ⟨acc, L, hl, B, h⟩ := h
  exact ⟨acc, B.head.1, hl, acc ++ [y], L, B.wr trivial, h⟩
/-- monotone readings -/
def MonoE (te : TE) : Prop := ∀ σ H (Q Q' : VK), (∀ v H', Q v H' → Q' v H') → te σ H Q → te σ H Q'
theorem s_lcL {kx : Nat} {vs : List Nat} (Pv : Nat → List V → List Cell → Prop) (xs : List V) (B : Own H0 H T L) (start : Pv 0 [] L) (stays : ∀ i acc L H, Pv i acc L → Own H0 H T L → SqL K H a xs)
    (wp : ∀ x : V, wipe ((wipe σ vs).set kx (some x)) vs = wipe σ vs)
    (turn : ∀ D i x acc L H, xs[i]? = some x → Pv i acc L → Own H0 H T (.ob D (.lst acc) :: L) → tt ((wipe σ vs).set kx (some x)) H fun b H3 =>
      if b = true then te ((wipe σ vs).set kx (some x)) H3 fun y H4 => ∃ acc, H4 D = some (.lst acc) ∧ acc.length < sizeLine ∧ NoEl H0 T D (Pv (i + 1)) (upd H4 D (.lst (acc ++ [y]))) else NoEl H0 T D (Pv (i + 1)) H3)
    (last : ∀ D acc L H, Pv xs.length acc L → Own H0 H T (.ob D (.lst acc) :: L) → Q (.ref D) H) : LcG (Itl K a) (gName kx) tt te vs σ Q H := fun D nD =>
  lc_list (K := K) (a := a) (xs := xs) (fun i => NoEl H0 T D (Pv i)) ⟨[], L, B.new nD trivial, start⟩ (fun i H _ ⟨acc, L, B, h⟩ => stays i acc L H h B.tail)
    (fun i x H hx ⟨acc, L, B, h⟩ => ⟨wp x, turn D i x acc L H hx h B⟩) (fun H ⟨acc, L, B, h⟩ => last D acc L H h B)
theorem s_lcR {kx : Nat} {vs : List Nat} (Pv : Nat → List V → List Cell → Prop) (B : Own H0 H T L) (start : Pv 0 [] L)
    (wp : ∀ x : V, wipe ((wipe σ vs).set kx (some x)) vs = wipe σ vs)
    (turn : ∀ D i acc L H, i < n → Pv i acc L → Own H0 H T (.ob D (.lst acc) :: L) → tt ((wipe σ vs).set kx (some (.int (i : Int)))) H fun b H3 =>
      if b = true then te ((wipe σ vs).set kx (some (.int (i : Int)))) H3 fun y H4 => ∃ acc, H4 D = some (.lst acc) ∧ acc.length < sizeLine ∧ NoEl H0 T D (Pv (i + 1)) (upd H4 D (.lst (acc ++ [y]))) else NoEl H0 T D (Pv (i + 1)) H3)
    (last : ∀ D acc L H, Pv n acc L → Own H0 H T (.ob D (.lst acc) :: L) → Q (.ref D) H) : LcG (Itr 0 n) (gName kx) tt te vs σ Q H := fun D nD =>
  lc_range (lo := 0) (n := n) (fun i => NoEl H0 T D (Pv i)) ⟨[], L, B.new nD trivial, start⟩
    (fun i H hi ⟨acc, L, B, h⟩ => ⟨wp _, by rw [Int.zero_add]; exact turn D i acc L H hi h B⟩) (fun H ⟨acc, L, B, h⟩ => last D acc L H h B)
theorem s_yes (k : Qb true H) : tYes σ H Qb := k
theorem s_el {Pv : List V → List Cell → Prop} {acc : List V} {M : List Cell} (B : Own H0 H T L) [P : Pull L a (.ob a (.lst acc)) L'] [A : Arr L' M] (hl : acc.length < sizeLine) (h : Pv (acc ++ [y]) M) :
    ∃ acc, H a = some (.lst acc) ∧ acc.length < sizeLine ∧ NoEl H0 T a Pv (upd H a (.lst (acc ++ [y]))) := (El.mk B hl h).use
/-- [f(x) for x in xs if p(x)] where neither changes anything -/
theorem s_lcP {kx : Nat} {vs : List Nat} (f : V → V) (pp : V → Bool) (xs : List V) (B : Own H0 H T L) (hs : SqL K H a xs) (hlen : xs.length < sizeLine) (stays : ∀ H, Own H0 H T L → SqL K H a xs)
    (wp : ∀ x : V, wipe ((wipe σ vs).set kx (some x)) vs = wipe σ vs)
    (test : ∀ (D : Addr) (acc : List V) (x : V) (H : Hp) (Qb : Bool → Hp → Prop), x ∈ xs → Own H0 H T (.ob D (.lst acc) :: L) → (∀ H', Own H0 H' T (.ob D (.lst acc) :: L) → Qb (pp x) H') → tt ((wipe σ vs).set kx (some x)) H Qb)
    (elem : ∀ (D : Addr) (acc : List V) (x : V) (H : Hp) (Q : VK), x ∈ xs → pp x = true → Own H0 H T (.ob D (.lst acc) :: L) → (∀ H', Own H0 H' T (.ob D (.lst acc) :: L) → Q (f x) H') → te ((wipe σ vs).set kx (some x)) H Q)
    (last : ∀ D H, Own H0 H T (.ob D (.lst ((xs.filter pp).map f)) :: L) → Q (.ref D) H) : LcG (Itl K a) (gName kx) tt te vs σ Q H := by
  refine s_lcL (fun i acc M => acc = ((xs.take i).filter pp).map f ∧ M = L) xs B ⟨rfl, rfl⟩ ?_ wp ?_ ?_
  · rintro i acc M H ⟨_, rfl⟩ B
    exact stays H B
  · rintro D i x acc M H hx ⟨rfl, rfl⟩ B
    have hm : x ∈ xs := List.mem_of_getElem? hx
    have tk : (xs.take (i + 1)).filter pp = (xs.take i).filter pp ++ (if pp x then [x] else []) := by
      rw [List.take_add_one, hx, List.filter_append]
      congr 1
      by_cases h : pp x = true <;> simp [h]
    refine test D _ x H _ hm B (fun H' B' => ?_)
    by_cases h : pp x = true
    · rw [h]
      refine iteT (elem D _ x H' _ hm h B' (fun H2 B2 => ?_))
      refine s_el B2 ?_ ⟨?_, rfl⟩
      · rw [List.length_map]
        have h1 := List.length_filter_le pp (xs.take i)
        rw [List.length_take] at h1
        omega
      · rw [tk, h, List.map_append]; rfl
    · have h2 : pp x = false := by simpa using h
      rw [h2]
      refine iteF (NoEl.mk B' ⟨?_, rfl⟩)
      rw [tk, h2]
      simp
  · rintro D acc M H ⟨rfl, rfl⟩ B
    rw [List.take_length] at B
    exact last D H B
theorem iteD {A B pr : Prop} [Decidable pr] (h1 : pr → A) (h2 : ¬ pr → B) : if decide pr = true then A else B := ite2 (fun e => h1 (of_decide_eq_true e)) (fun e => h2 fun z => e (decide_eq_true z))
theorem iteND {A B pr : Prop} [Decidable pr] (h1 : ¬ pr → A) (h2 : pr → B) : if (!decide pr) = true then A else B := ite2 (fun e => h1 (by simpa using e)) (fun e => h2 (by simpa using e))
theorem iteB {A B : Prop} (b : Bool) (h1 : b = true → A) (h2 : b = false → B) : if b = true then A else B := by
  cases b with
  | true => exact iteT (h1 rfl)
  | false => exact iteF (h2 rfl)
end
/-! what a def needs of another -/
structure Cal (P : Program) (w : World) (K : PySem.W.Frag) (mg : Str → Option Value) (base : Heap) (k : Nat) (nm : Str) (ps : List Str) (sp : Sp) : Prop where
  ex : ∃ (f : Addr) (fd : FuncData), FnOk P w K mg base CX0 k f fd ps sp ∧ mg nm = some (.ref f) ∧ PySem.W.keepIn K (.ref f) = true ∧ Binds K fd ps []
theorem Cal.mono {P : Program} {w : World} {K : PySem.W.Frag} {mg : Str → Option Value} {base : Heap} {j k : Nat} {nm : Str} {ps : List Str} {sp : Sp} (C : Cal P w K mg base j nm ps sp) (h : j ≤ k) : Cal P w K mg base k nm ps sp := by
  obtain ⟨f, fd, F, r⟩ := C.ex
  exact ⟨f, fd, F.mono h, r⟩
theorem pe_cal {X : Cx} {k : Nat} {nm : Str} {ps : List Str} {sp : Sp} {e : Expr} {es : List Expr} {p pos : Pos} {t : TA} (C : Cal X.prog X.w X.K X.mg X.base k nm ps sp) (room : Room k X.A) (gl : Gl X nm) (ha : PA X (e :: es) t)
    (hdb : (nm == ("__debug__" : Str)) = false := by decide) (he : starEach (e :: es) X.env = (false, eval e X.env) :: starEach es X.env := by rfl) (hpl : (backTo pos (starEach es X.env)).any (·.1) = false := by rfl) :
    PE X (.Call (.Name nm p) (e :: es) [] pos) (tCall sp [] E0 t) := by
  obtain ⟨f, fd, F, g, kp, b⟩ := C.ex
  exact pe_call F room gl g kp b .nil pass0 ha hdb he hpl
end My
namespace My
open PySem PySem.Spec PyProof.Rows L2 LamX
theorem natv {v : Int} (h : 0 ≤ v) : ∃ n : Nat, v = (n : Int) := ⟨v.toNat, by omega⟩
theorem hu65_of {k : Nat} {A : Around} (hr : Room k A) : A.units + 65 < cLine := by have := hr.un; omega
theorem hu100_of {k : Nat} {A : Around} (hr : Room k A) : A.units + 100 < cLine := by have := hr.un; omega
theorem cpow_ok {i j : Int} (h0 : 0 ≤ j) (h1 : j ≤ 1000000) (h2 : i.natAbs < 2 ^ 64) : CPow i j := ⟨h0, h1, h2⟩
theorem cmul_l {i j : Int} (h0 : -(2 ^ 64) < i) (h1 : i < 2 ^ 64) : CMul i j := .inl ⟨h0, h1⟩
theorem cmul_r {i j : Int} (h0 : -(2 ^ 64) < j) (h1 : j < 2 ^ 64) : CMul i j := .inr ⟨h0, h1⟩
def rRng1 : List V → Hp → VK → Prop := fun vs H Q => ∃ j, vs = [V.int j] ∧ ∀ p, H p = none → Q (.ref p) (upd H p (.rng 0 j))
end My
namespace My
open PySem PySem.Spec PyProof.Rows L2 LamX
section
variable {K : PySem.W.Frag} {H0 H H' : Hp} {T : List (Addr × Str)} {L L' : List Cell} {a p l q : Addr} {xs ys : List V} {qs : List Addr} {rows : List (List V)} {fam : List (List Int)} {f : List Int} {σ : L2.St} {Q : VK} {D : Ends} {v x : V} {y : Int} {R : Prop}
  {n m : Nat} {tt : TT} {tb : TS} {te : TE} {kx : Nat} {vs : List Nat}
/-! a family's rows -/
theorem vv_get (h : fam[n]? = some f) : (vv fam)[n]? = some (f.map V.int) := by rw [List.getElem?_map, h]; rfl
theorem vv_app (a b : List (List Int)) : vv (a ++ b) = vv a ++ vv b := List.map_append ..
theorem vv_set : (vv fam).set n (f.map V.int) = vv (fam.set n f) := (List.map_set ..).symm
theorem Own.lenF (B : Own H0 H T L) (p : Addr) [P : Pull L p (.fm p qs (vv fam)) L'] : qs.length = fam.length := by
  have h := (B.rowsF p).len
  rwa [vv_len] at h
theorem Own.qrow (B : Own H0 H T L) (p : Addr) [P : Pull L p (.fm p qs (vv fam)) L'] (h : fam[n]? = some f) : ∃ q, qs[n]? = some q ∧ H q = some (.lst (f.map V.int)) := by
  have hl : n < qs.length := by rw [B.lenF p]; exact (List.getElem?_eq_some_iff.mp h).1
  exact ⟨qs[n], List.getElem?_eq_getElem hl, B.rowAt p (List.getElem?_eq_getElem hl) (vv_get h)⟩
theorem Own.rowOf (B : Own H0 H T L) (p : Addr) [P : Pull L p (.fm p qs (vv fam)) L'] (h : qs[n]? = some q) : ∃ f, fam[n]? = some f ∧ H q = some (.lst (f.map V.int)) := by
  have hl : n < fam.length := by rw [← B.lenF p]; exact (List.getElem?_eq_some_iff.mp h).1
  exact ⟨fam[n], List.getElem?_eq_getElem hl, B.rowAt p h (vv_get (List.getElem?_eq_getElem hl))⟩
theorem s_appendV (B : Own H0 H T L) (p : Addr) [P : Pull L p (.fm p qs (vv fam)) L'] (h1 : qs[n]? = some q) (h2 : fam[n]? = some f) (h : f.length < sizeLine)
    (k : ∀ H', Own H0 H' T (.fm p qs (vv (fam.set n (f ++ [y]))) :: L') → Q .non H') : rAppend (.ref q) [.int y] H Q :=
  s_appendR B p h1 (vv_get h2) (by rw [List.length_map]; exact h) fun H' B' => k H' (by
    have e : f.map V.int ++ [V.int y] = (f ++ [y]).map V.int := by rw [List.map_append]; rfl
    rw [e, vv_set] at B'
    exact B')
theorem s_extendV {g : List Int} (B : Own H0 H T L) (p : Addr) [P : Pull L p (.fm p qs (vv fam)) L'] (h1 : qs[n]? = some q) (h2 : fam[n]? = some f) (h3 : H l = some (.lst (g.map V.int))) (h : f.length + g.length ≤ sizeLine)
    (k : ∀ H', Own H0 H' T (.fm p qs (vv (fam.set n (f ++ g))) :: L') → Q .non H') : rExtend (.ref q) [.ref l] H Q :=
  s_extendR B p h1 (vv_get h2) h3 (by rw [List.length_map, List.length_map]; exact h) fun H' B' => k H' (by
    rw [← List.map_append, vv_set] at B'
    exact B')
theorem s_popAtV {z : Int} (B : Own H0 H T L) (p : Addr) [P : Pull L p (.fm p qs (vv fam)) L'] (h1 : qs[n]? = some q) (h2 : fam[n]? = some f) (h0 : (m : Int) < 2 ^ 63) (h : f[m]? = some z)
    (k : ∀ H', Own H0 H' T (.fm p qs (vv (fam.set n (f.eraseIdx m))) :: L') → Q (.int z) H') : rPopAt (.ref q) [.int (m : Int)] H Q :=
  s_popAtR B p h1 (vv_get h2) h0 (by rw [List.getElem?_map, h]; rfl) fun H' B' => k H' (by
    rw [erase_map, vv_set] at B'
    exact B')
theorem s_popV {z : Int} {g : List Int} (B : Own H0 H T L) (p : Addr) [P : Pull L p (.fm p qs (vv fam)) L'] (h1 : qs[n]? = some q) (h2 : fam[n]? = some (g ++ [z]))
    (k : ∀ H', Own H0 H' T (.fm p qs (vv (fam.set n g)) :: L') → Q (.int z) H') : rPop (.ref q) [] H Q :=
  s_popR B p h1 (vv_get h2) (y := .int z) (by rw [List.length_map, List.length_append]; simp) fun H' B' => k H' (by
    have e : ((g ++ [z]).map V.int).dropLast = g.map V.int := by rw [List.map_append]; simp
    rw [e, vv_set] at B'
    exact B')
theorem Own.setF (B : Own H0 H T L) (p : Addr) [P : Pull L p (.fm p qs (vv fam)) L'] : H p = some (.lst (qs.map V.ref)) := B.getF p
/-! while -/
def WhN (H0 : Hp) (T : List (Addr × Str)) (Pv : Nat → L2.St → List Cell → Prop) (m : Nat) : L2.St → Hp → Prop := fun σ H => ∃ m' L, m' < m ∧ Pv m' σ L ∧ Own H0 H T L
def WhB (H0 : Hp) (T : List (Addr × Str)) (Pv : Nat → L2.St → List Cell → Prop) (m : Nat) (tb : TS) (D : Ends) (σ : L2.St) (H1 : Hp) : Prop :=
  ∃ N : L2.St → Hp → Prop, (∀ σ' H', N σ' H' → ∃ m', m' < m ∧ ∃ L, Pv m' σ' L ∧ Own H0 H' T L) ∧ tb { D with nx := N, ct := N, bk := D.nx } σ H1
theorem s_whB {Pv : Nat → L2.St → List Cell → Prop} (k : tb { D with nx := WhN H0 T Pv m, ct := WhN H0 T Pv m, bk := D.nx } σ H) : WhB H0 T Pv m tb D σ H :=
  ⟨_, fun σ' H' ⟨m', L, h1, h2, h3⟩ => ⟨m', h1, L, h2, h3⟩, k⟩
theorem WhN.mk {Pv : Nat → L2.St → List Cell → Prop} {M : List Cell} (B : Own H0 H T L) [A : Arr L M] (n : Nat) (hn : n < m) (h : Pv n σ M) : WhN H0 T Pv m σ H := ⟨n, M, hn, h, B.arr⟩
theorem s_while {c : TT} (Pv : Nat → L2.St → List Cell → Prop) (m0 : Nat) (B : Own H0 H T L) (start : Pv m0 σ L)
    (turn : ∀ m σ L H, Pv m σ L → Own H0 H T L → c σ H fun b H1 => if b = true then WhB H0 T Pv m tb D σ H1 else D.nx σ H1) : tWhile c tb D σ H := by
  refine ⟨fun m σ H => ∃ L, Pv m σ L ∧ Own H0 H T L, ⟨m0, L, start, B⟩, ?_⟩
  rintro m σ H ⟨L, h, B⟩
  exact turn m σ L H h B
/-! the queues that are not empty -/
def full (qs : List Addr) (fam : List (List Int)) : List Addr := ((qs.zip fam).filter fun z => !z.2.isEmpty).map (·.1)
def heads (fam : List (List Int)) : List Int := (fam.filter fun q => !q.isEmpty).map hd
theorem full_snoc {q : Addr} {f : List Int} {i : Nat} (h1 : qs[i]? = some q) (h2 : fam[i]? = some f) : full (qs.take (i + 1)) (fam.take (i + 1)) = full (qs.take i) (fam.take i) ++ (if f.isEmpty then [] else [q]) := by
  have hl1 : i < qs.length := (List.getElem?_eq_some_iff.mp h1).1
  have hl2 : i < fam.length := (List.getElem?_eq_some_iff.mp h2).1
  unfold full
  rw [List.take_add_one, List.take_add_one, h1, h2]
  have e : (qs.take i ++ (some q).toList).zip (fam.take i ++ (some f).toList) = (qs.take i).zip (fam.take i) ++ [(q, f)] := by
    rw [List.zip_append (by rw [List.length_take, List.length_take]; omega)]; rfl
  rw [e, List.filter_append, List.map_append]
  congr 1
  cases f <;> rfl
theorem heads_snoc {f : List Int} {i : Nat} (h2 : fam[i]? = some f) : heads (fam.take (i + 1)) = heads (fam.take i) ++ (if f.isEmpty then [] else [hd f]) := by
  unfold heads
  rw [List.take_add_one, h2, List.filter_append, List.map_append]
  congr 1
  cases f <;> rfl
theorem full_len : (full qs fam).length ≤ qs.length := by
  unfold full
  rw [List.length_map]
  refine Nat.le_trans (List.length_filter_le ..) ?_
  rw [List.length_zip]
  omega
theorem heads_len : (heads fam).length ≤ fam.length := by
  unfold heads
  rw [List.length_map]
  exact List.length_filter_le ..
theorem full_mem (hl : qs.length = fam.length) {q : Addr} (h : q ∈ full qs fam) : ∃ (i : Nat) (f : List Int), qs[i]? = some q ∧ fam[i]? = some f ∧ f ≠ [] := by
  obtain ⟨z, hz, rfl⟩ := List.mem_map.mp h
  obtain ⟨h1, h2⟩ := List.mem_filter.mp hz
  obtain ⟨i, hi⟩ := List.mem_iff_getElem?.mp h1
  have h3 := List.getElem?_zip_eq_some.mp hi
  exact ⟨i, z.2, h3.1, h3.2, fun e => by rw [e] at h2; cases h2⟩
theorem full_nil (hl : qs.length = fam.length) (h : full qs fam = []) : ∀ f ∈ fam, f = [] := by
  intro f hf
  obtain ⟨i, hi⟩ := List.mem_iff_getElem?.mp hf
  have hl2 : i < qs.length := by rw [hl]; exact (List.getElem?_eq_some_iff.mp hi).1
  have hz : (qs[i], f) ∈ qs.zip fam := List.mem_iff_getElem?.mpr ⟨i, List.getElem?_zip_eq_some.mpr ⟨List.getElem?_eq_getElem hl2, hi⟩⟩
  unfold full at h
  have h2 := List.map_eq_nil_iff.mp h
  have h3 := List.filter_eq_nil_iff.mp h2 _ hz
  cases f with
  | nil => rfl
  | cons x r => exact absurd rfl h3
theorem heads_mem {h : Int} : h ∈ heads fam ↔ ∃ f ∈ fam, f ≠ [] ∧ hd f = h := by
  unfold heads
  rw [List.mem_map]
  constructor
  · rintro ⟨f, hf, e⟩
    obtain ⟨h1, h2⟩ := List.mem_filter.mp hf
    exact ⟨f, h1, (fun z => by rw [z] at h2; cases h2), e⟩
  · rintro ⟨f, h1, h2, e⟩
    exact ⟨f, List.mem_filter.mpr ⟨h1, by cases f with | nil => exact absurd rfl h2 | cons => rfl⟩, e⟩
/-- the question queue != [] of a queue of ints -/
theorem s_neE {Q : Bool → Hp → Prop} {f : List Int} (B : Own H0 H T L) (h : H q = some (.lst (f.map V.int))) (hv : σ[kx]? = some (some (.ref q))) (k : ∀ H', Own H0 H' T L → Same H H' → Q (!f.isEmpty) H') :
    tTest (tOp (rNeD K) (tVar kx) (tLst tNil)) σ H Q := by
  refine ⟨_, hv, ⟨Nat.zero_le _, fun t nt => ?_⟩⟩
  refine ⟨dI f, .list [], dpI (SqL.of (by rw [upd_ne (ne_of_none h nt)]; exact h)), .lst (SqL.of upd_same) .nil, shaped_I _, shaped_I [], ?_⟩
  refine ⟨_, rfl, ?_⟩
  have e : PyData.eqv (dI f) (.list []) = f.isEmpty := by
    unfold dI
    rw [eqv_empty]
    cases f <;> rfl
  rw [e]
  exact k _ (B.new (o := .lst []) nt trivial).tail (sameN nt)
theorem Same.get {q : Addr} {o : HO} (s : Same H H') (h : H q = some o) : H' q = some o := s _ _ h
theorem s_lcFull (B : Own H0 H T L) [P : Pull L p (.fm p qs (vv fam)) L'] (hsm : fam.length ≤ 1000) (wp : ∀ x : V, wipe ((wipe σ vs).set kx (some x)) vs = wipe σ vs) (wg : ∀ x : V, ((wipe σ vs).set kx (some x))[kx]? = some (some x))
    (last : ∀ D H, Own H0 H T (.ob D (.lst ((full qs fam).map V.ref)) :: L) → Q (.ref D) H) : LcG (Itl K p) (gName kx) (tTest (tOp (rNeD K) (tVar kx) (tLst tNil))) (tVar kx) vs σ Q H := by
  have hl := B.lenF p
  refine s_lcL (fun i acc M => acc = (full (qs.take i) (fam.take i)).map V.ref ∧ M = L) (qs.map V.ref) B ⟨rfl, rfl⟩ ?_ wp ?_ ?_
  · rintro i acc M H ⟨_, rfl⟩ B
    exact SqL.of (B.getF p)
  · rintro Dc i x acc M H hx ⟨rfl, rfl⟩ B
    rw [List.getElem?_map] at hx
    obtain ⟨q, hq, rfl⟩ := Option.map_eq_some_iff.mp hx
    obtain ⟨f, ef, hf⟩ := B.tail.rowOf p hq
    refine s_neE B hf (wg _) fun H' B' _ => ?_
    have sn := full_snoc hq ef
    cases f with
    | nil => exact iteF (NoEl.mk B' ⟨by rw [sn]; simp, rfl⟩)
    | cons z r =>
      refine iteT (s_var (wg _) (s_el B' ?_ ⟨?_, rfl⟩))
      · rw [List.length_map]
        have := full_len (qs := qs.take i) (fam := fam.take i)
        rw [List.length_take] at this
        unfold sizeLine
        omega
      · rw [sn, List.map_append]; rfl
  · rintro Dc acc M H ⟨rfl, rfl⟩ B
    rw [List.length_map, List.take_length, hl, List.take_length] at B
    exact last Dc H B
theorem s_lcHeads (B : Own H0 H T L) [P : Pull L p (.fm p qs (vv fam)) L'] (hsm : fam.length ≤ 1000) (wp : ∀ x : V, wipe ((wipe σ vs).set kx (some x)) vs = wipe σ vs) (wg : ∀ x : V, ((wipe σ vs).set kx (some x))[kx]? = some (some x))
    (last : ∀ D H, Own H0 H T (.ob D (.lst ((heads fam).map V.int)) :: L) → Q (.ref D) H) : LcG (Itl K p) (gName kx) (tTest (tOp (rNeD K) (tVar kx) (tLst tNil))) (tOp (rIxL K) (tVar kx) (tC (.int 0))) vs σ Q H := by
  have hl := B.lenF p
  refine s_lcL (fun i acc M => acc = (heads (fam.take i)).map V.int ∧ M = L) (qs.map V.ref) B ⟨rfl, rfl⟩ ?_ wp ?_ ?_
  · rintro i acc M H ⟨_, rfl⟩ B
    exact SqL.of (B.getF p)
  · rintro Dc i x acc M H hx ⟨rfl, rfl⟩ B
    rw [List.getElem?_map] at hx
    obtain ⟨q, hq, rfl⟩ := Option.map_eq_some_iff.mp hx
    obtain ⟨f, ef, hf⟩ := B.tail.rowOf p hq
    refine s_neE B hf (wg _) fun H' B' sm => ?_
    have sn := heads_snoc ef
    cases f with
    | nil => exact iteF (NoEl.mk B' ⟨by rw [sn]; simp, rfl⟩)
    | cons z r =>
      refine iteT (s_op (s_var (wg _) (s_C (s_ixS (SqL.of (sm _ _ hf)) (i := 0) (v := .int z) (by exact atI_nat (j := 0) rfl) (s_el B' ?_ ⟨?_, rfl⟩)))))
      · rw [List.length_map]
        have := heads_len (fam := fam.take i)
        rw [List.length_take] at this
        unfold sizeLine
        omega
      · rw [sn, List.map_append]; rfl
  · rintro Dc acc M H ⟨rfl, rfl⟩ B
    rw [List.length_map, hl, List.take_length] at B
    exact last Dc H B
end
end My
namespace My
open PySem PySem.Spec PyProof.Rows L2 LamX
section
variable {K : PySem.W.Frag} {H0 H H' : Hp} {T : List (Addr × Str)} {L L' L1 : List Cell} {a p l q : Addr} {xs ys : List V} {qs zs : List Addr} {fam : List (List Int)} {f ns : List Int} {σ : L2.St} {Q : VK} {Qb : Bool → Hp → Prop} {D : Ends} {n m : Nat} {Pv : L2.St → List Cell → Prop} {M : List Cell} {rt : VK} {bk ct : L2.St → Hp → Prop}
theorem s_inn (B : Own H0 H T L) [A : Arr L M] (h : Pv σ M) : Ends.nx ⟨Inn H0 T Pv, rt, bk, ct⟩ σ H := Inn.mk B h
theorem s_whn {Pv : Nat → L2.St → List Cell → Prop} (B : Own H0 H T L) [A : Arr L M] (n : Nat) (hn : n < m) (h : Pv n σ M) : Ends.nx ⟨WhN H0 T Pv m, rt, bk, ct⟩ σ H := WhN.mk B n hn h
theorem s_min (B : Own H0 H T L) [P : Pull L a (.ob a (.lst (ns.map V.int))) L'] (h : ns ≠ []) (k : ∀ m, m ∈ ns → (∀ y ∈ ns, m ≤ y) → Q (.int m) H) : rMin K [.ref a] H Q :=
  ⟨a, ns, rfl, SqL.of (B.get a), List.length_pos_iff.mpr h, k⟩
theorem s_max (B : Own H0 H T L) [P : Pull L a (.ob a (.lst (ns.map V.int))) L'] (h : ns ≠ []) (k : ∀ m, m ∈ ns → (∀ y ∈ ns, y ≤ m) → Q (.int m) H) : rMax K [.ref a] H Q :=
  ⟨a, ns, rfl, SqL.of (B.get a), List.length_pos_iff.mpr h, k⟩
theorem dpAll_refs : ∀ {zs : List Addr}, (∀ z ∈ zs, ∃ f : List Int, H z = some (.lst (f.map V.int))) → ∃ fs : List (List Int), fs.length = zs.length ∧ DpAll K H (zs.map V.ref) (fs.map dI)
  | [], _ => ⟨[], rfl, .nil⟩
  | z :: zs, h => by
    obtain ⟨f, hf⟩ := h z (List.mem_cons_self ..)
    obtain ⟨fs, e, d⟩ := dpAll_refs (zs := zs) fun y hy => h y (List.mem_cons_of_mem _ hy)
    exact ⟨f :: fs, by simp [e], .cons (dpI (SqL.of hf)) d⟩
theorem layR : ∀ bs : List (List Int), PyData.canLayAll0 (bs.map dI) = true
  | [] => by simp [PyData.canLayAll0]
  | b :: bs => by
    have h1 := layR bs
    have h2 : (dI b).canLay0 = true := by unfold dI; simp only [PyData.canLay0]; exact lay_ints b
    rw [List.map_cons]
    simp only [PyData.canLayAll0, h1, h2, Bool.and_true]
theorem shapedR (bs : List (List Int)) : SeqAt.shaped (dR bs) = true := by
  have h1 := dR_depth bs
  have h2 := layR bs
  show ((dR bs).canLay0 && decide ((dR bs).depth ≤ 64)) = true
  have h3 : (dR bs).canLay0 = true := by unfold dR; simp only [PyData.canLay0]; exact h2
  rw [h3, decide_eq_true (by omega)]; rfl
/-- a queue of ints against the empty list -/
theorem s_neQ (B : Own H0 H T L) [P2 : Pull L l (.ob l (.lst [])) L1] (h : H a = some (.lst (f.map V.int))) (k : Q (.bl (!f.isEmpty)) H) : rNeD K (.ref a) (.ref l) H Q := by
  refine ⟨dI f, .list [], dpI (SqL.of h), .lst (SqL.of (B.get l)) .nil, shaped_I _, shaped_I [], ?_⟩
  have e : PyData.eqv (dI f) (.list []) = f.isEmpty := by
    unfold dI
    rw [eqv_empty]
    cases f <;> rfl
  rw [e]
  exact k
theorem s_eqQ (B : Own H0 H T L) [P2 : Pull L l (.ob l (.lst [])) L1] (h : H a = some (.lst (f.map V.int))) (k : Q (.bl f.isEmpty) H) : rEqD K (.ref a) (.ref l) H Q := by
  refine ⟨dI f, .list [], dpI (SqL.of h), .lst (SqL.of (B.get l)) .nil, shaped_I _, shaped_I [], ?_⟩
  have e : PyData.eqv (dI f) (.list []) = f.isEmpty := by
    unfold dI
    rw [eqv_empty]
    cases f <;> rfl
  rw [e]
  exact k
/-- a list of queues against the empty list -/
theorem s_neF (B : Own H0 H T L) [P1 : Pull L a (.ob a (.lst (zs.map V.ref))) L'] [P2 : Pull L l (.ob l (.lst [])) L1] (h : ∀ z ∈ zs, ∃ f : List Int, H z = some (.lst (f.map V.int))) (k : Q (.bl (!zs.isEmpty)) H) : rNeD K (.ref a) (.ref l) H Q := by
  obtain ⟨fs, e, d⟩ := dpAll_refs (K := K) h
  refine ⟨dR fs, .list [], .lst (SqL.of (B.get a)) d, .lst (SqL.of (B.get l)) .nil, shapedR fs, shaped_I [], ?_⟩
  have e2 : PyData.eqv (dR fs) (.list []) = zs.isEmpty := by
    unfold dR
    rw [eqv_empty]
    cases fs with
    | nil => cases zs with
      | nil => rfl
      | cons => cases e
    | cons => cases zs with
      | nil => cases e
      | cons => rfl
  rw [e2]
  exact k
theorem split_at {α : Type} {l : List α} {j : Nat} {x : α} (h : l[j]? = some x) : l = l.take j ++ x :: l.drop (j + 1) := by
  have e := (List.getElem?_eq_some_iff.mp h).2
  have hl := (List.getElem?_eq_some_iff.mp h).1
  rw [← e]; simp
theorem set_at {α : Type} {l : List α} {j : Nat} {x y : α} (h : l[j]? = some x) : l.set j y = l.take j ++ y :: l.drop (j + 1) := by
  have hl := (List.getElem?_eq_some_iff.mp h).1
  rw [List.set_eq_take_append_cons_drop, if_pos hl]
/-- the least head passes -/
theorem mrg_take {fam : List (List Int)} {j : Nat} {h : Int} {t : List Int} (nd : fam.flatten.Nodup) (e : fam[j]? = some (h :: t)) (least : ∀ x ∈ heads fam, h ≤ x) : mrg fam = h :: mrg (fam.set j t) := by
  have e1 := split_at e
  rw [set_at e]
  have nd2 := nd
  rw [e1] at nd2
  conv => lhs; rw [e1]
  refine mrg_step nd2 fun q hq ne => ?_
  have hm : q ∈ fam := by
    rw [e1]
    rcases hq with h1 | h1
    · exact List.mem_append_left _ h1
    · exact List.mem_append_right _ (List.mem_cons_of_mem _ h1)
  have h1 := least (hd q) (heads_mem.mpr ⟨q, hm, ne, rfl⟩)
  have h2 : hd q ≠ h := fun z => by
    have hin : h ∈ q := z ▸ hd_mem ne
    rw [List.flatten_append, List.flatten_cons] at nd2
    rcases hq with h1 | h1
    · exact (List.nodup_append.mp nd2).2.2 h (List.mem_flatten.mpr ⟨q, h1, hin⟩) h (List.mem_append_left _ (List.mem_cons_self ..)) rfl
    · exact (List.nodup_append.mp (List.nodup_append.mp nd2).2.1).2.2 h (List.mem_cons_self ..) h (List.mem_flatten.mpr ⟨q, h1, hin⟩) rfl
  omega
theorem set_tail_perm {fam : List (List Int)} {j : Nat} {h : Int} {t : List Int} (e : fam[j]? = some (h :: t)) : (h :: (fam.set j t).flatten).Perm fam.flatten := by
  conv => rhs; rw [split_at e]
  rw [set_at e, List.flatten_append, List.flatten_append, List.flatten_cons, List.flatten_cons]
  exact (List.perm_middle (a := h) (l₁ := (fam.take j).flatten)).symm
end
end My
namespace My
open PySem PySem.Spec PyProof.Rows L2 LamX
section
variable {K : PySem.W.Frag} {H0 H H' : Hp} {T : List (Addr × Str)} {L L' : List Cell} {a p : Addr} {qs : List Addr} {fam : List (List Int)} {f ns : List Int} {σ : L2.St} {Q : VK} {n kx : Nat} {vs : List Nat} {xs : List V}
/-- [[] for k in range(n)] -/
theorem s_lcEmpty (B : Own H0 H T L) (hn : n ≤ 100000) (wp : ∀ x : V, wipe ((wipe σ vs).set kx (some x)) vs = wipe σ vs) (last : ∀ p qs H, qs.length = n → Own H0 H T (.fm p qs (vv (List.replicate n [])) :: L) → Q (.ref p) H) :
    LcG (Itr 0 n) (gName kx) tYes (tLst tNil) vs σ Q H := by
  refine s_lcR (fun i acc M => ∃ qs : List Addr, qs.length = i ∧ acc = qs.map V.ref ∧ M = .rs qs (vv (List.replicate i [])) :: L) (Own.rs0 B) ⟨[], rfl, rfl, rfl⟩ wp ?_ ?_
  · rintro Dc i acc M H hi ⟨qs, hq, rfl, rfl⟩ B
    refine s_yes (iteT (s_lst (s_nil (s_newL B (Nat.zero_le _) fun l H B => ?_))))
    have B2 : Own H0 H T (.rs (qs ++ [l]) (vv (List.replicate i []) ++ [[]]) :: .ob Dc (.lst (qs.map V.ref)) :: L) := Own.pushR B.arr
    have e2 : vv (List.replicate i []) ++ [[]] = vv (List.replicate (i + 1) []) := by rw [List.replicate_succ']; simp
    rw [e2] at B2
    refine s_el B2 ?_ ⟨qs ++ [l], by rw [List.length_append, hq]; rfl, by rw [List.map_append]; rfl, rfl⟩
    rw [List.length_map, hq]; unfold sizeLine; omega
  · rintro p acc M H ⟨qs, hq, rfl, rfl⟩ B
    exact last p qs H hq B.closeR
/-- [[] for x in xs] -/
theorem s_lcEmptyL (B : Own H0 H T L) (hn : xs.length ≤ 100000) (stays : ∀ H, Own H0 H T L → SqL K H a xs) (wp : ∀ x : V, wipe ((wipe σ vs).set kx (some x)) vs = wipe σ vs) (last : ∀ p qs H, qs.length = xs.length → Own H0 H T (.fm p qs (vv (List.replicate xs.length [])) :: L) → Q (.ref p) H) :
    LcG (Itl K a) (gName kx) tYes (tLst tNil) vs σ Q H := by
  refine s_lcL (fun i acc M => ∃ qs : List Addr, qs.length = i ∧ acc = qs.map V.ref ∧ M = .rs qs (vv (List.replicate i [])) :: L) xs (Own.rs0 B) ⟨[], rfl, rfl, rfl⟩ ?_ wp ?_ ?_
  · rintro i acc M H ⟨qs, _, _, rfl⟩ B
    exact stays H B.tail
  · rintro Dc i x acc M H hx ⟨qs, hq, rfl, rfl⟩ B
    have hi := (List.getElem?_eq_some_iff.mp hx).1
    refine s_yes (iteT (s_lst (s_nil (s_newL B (Nat.zero_le _) fun l H B => ?_))))
    have B2 : Own H0 H T (.rs (qs ++ [l]) (vv (List.replicate i []) ++ [[]]) :: .ob Dc (.lst (qs.map V.ref)) :: L) := Own.pushR B.arr
    have e2 : vv (List.replicate i []) ++ [[]] = vv (List.replicate (i + 1) []) := by rw [List.replicate_succ']; simp
    rw [e2] at B2
    refine s_el B2 ?_ ⟨qs ++ [l], by rw [List.length_append, hq]; rfl, by rw [List.map_append]; rfl, rfl⟩
    rw [List.length_map, hq]; unfold sizeLine; omega
  · rintro p acc M H ⟨qs, hq, rfl, rfl⟩ B
    exact last p qs H hq B.closeR
/-- a copy of a family: [list(queue) for queue in family] -/
theorem s_lcCopy (B : Own H0 H T L) [P : Pull L p (.fm p qs (vv fam)) L'] (hn : fam.length ≤ 100000) (wp : ∀ x : V, wipe ((wipe σ vs).set kx (some x)) vs = wipe σ vs) (wg : ∀ x : V, ((wipe σ vs).set kx (some x))[kx]? = some (some x))
    (last : ∀ c ls H, ls.length = fam.length → Own H0 H T (.fm c ls (vv fam) :: L) → Q (.ref c) H) :
    LcG (Itl K p) (gName kx) tYes (tCB (rLsK K) (tCons (tVar kx) tNil)) vs σ Q H := by
  have hl := B.lenF p
  refine s_lcL (fun i acc M => ∃ ls : List Addr, ls.length = i ∧ acc = ls.map V.ref ∧ M = .rs ls (vv (fam.take i)) :: L) (qs.map V.ref) (Own.rs0 B) ⟨[], rfl, rfl, rfl⟩ ?_ wp ?_ ?_
  · rintro i acc M H ⟨ls, _, _, rfl⟩ B
    exact SqL.of (B.getF p)
  · rintro Dc i x acc M H hx ⟨ls, hls, rfl, rfl⟩ B
    rw [List.getElem?_map] at hx
    obtain ⟨qq, hq, rfl⟩ := Option.map_eq_some_iff.mp hx
    obtain ⟨f1, ef, hf⟩ := B.rowOf p hq
    have hi : i < fam.length := (List.getElem?_eq_some_iff.mp ef).1
    refine s_yes (iteT (s_cb (s_cons (s_var (wg _) (s_nil (s_list B hf fun l H B => ?_))))))
    have B2 : Own H0 H T (.rs (ls ++ [l]) (vv (fam.take i) ++ [f1.map V.int]) :: .ob Dc (.lst (ls.map V.ref)) :: L) := Own.pushR B.arr
    have e2 : vv (fam.take i) ++ [f1.map V.int] = vv (fam.take (i + 1)) := by rw [List.take_add_one, ef, vv_app]; rfl
    rw [e2] at B2
    refine s_el B2 ?_ ⟨ls ++ [l], by rw [List.length_append, hls]; rfl, by rw [List.map_append]; rfl, rfl⟩
    rw [List.length_map, hls]; unfold sizeLine; omega
  · rintro c acc M H ⟨ls, hls, rfl, rfl⟩ B
    have B := B.closeR
    rw [List.length_map, hl, List.take_length] at B
    exact last c ls H (by rw [hls, List.length_map, hl]) B
end
end My
namespace My
open PySem PySem.Spec PyProof.Rows L2 LamX
section
variable {K : PySem.W.Frag} {H0 H H' : Hp} {T : List (Addr × Str)} {L L' : List Cell} {a p : Addr} {qs : List Addr} {fam : List (List Int)} {f ns : List Int} {σ : L2.St} {Q : VK} {n kx : Nat} {vs : List Nat} {xs : List V} {x i j : Int} {D : Ends} {te ta tb tc : TE} {r r' : R2} {b : Bool}
theorem inV_I (x : Int) (ns : List Int) : inV (.int x) (ns.map V.int) = decide (x ∈ ns) := by
  unfold inV
  rw [List.any_map]
  by_cases h : x ∈ ns
  · rw [decide_eq_true h]
    exact List.any_eq_true.mpr ⟨x, h, by simp [eqV]⟩
  · rw [decide_eq_false h]
    refine List.any_eq_false.mpr fun y hy => ?_
    have ne : y ≠ x := fun e => h (e ▸ hy)
    simp [eqV, ne]
theorem flat_I (ns : List Int) : (ns.map V.int).all flatV = true := by
  rw [List.all_map]
  exact List.all_eq_true.mpr fun x _ => rfl
theorem idxOf_le {x : Int} : ∀ {l : List Int} {m : Nat}, l[m]? = some x → l.idxOf x ≤ m
  | [], m, h => by simp at h
  | y :: l, 0, h => by
    have e : y = x := Option.some.inj h
    rw [List.idxOf_cons, e]; simp
  | y :: l, m + 1, h => by
    rw [List.idxOf_cons]
    have := idxOf_le (l := l) (m := m) h
    cases (y == x) <;> simp <;> omega
theorem s_inI (h : H a = some (.lst (ns.map V.int))) (k : Q (.bl (decide (x ∈ ns))) H) : rIn K false (.int x) (.ref a) H Q :=
  ⟨a, _, rfl, .inl (SqL.of h), rfl, flat_I _, by rw [inV_I]; exact k⟩
theorem s_ninI (h : H a = some (.lst (ns.map V.int))) (k : Q (.bl (!decide (x ∈ ns))) H) : rIn K true (.int x) (.ref a) H Q :=
  ⟨a, _, rfl, .inl (SqL.of h), rfl, flat_I _, by rw [inV_I]; exact k⟩
theorem s_indexI (h : H a = some (.lst (ns.map V.int))) (hx : x ∈ ns) (k : Q (.int ((ns.idxOf x : Nat) : Int)) H) : rIndex K (.ref a) [.int x] H Q := by
  have hl : ns.idxOf x < ns.length := List.idxOf_lt_length_iff.mpr hx
  refine ⟨a, _, .int x, ns.idxOf x, .int x, rfl, rfl, SqL.of h, rfl, flat_I _, ?_, by simp [eqV], ?_, k⟩
  · rw [List.getElem?_map, List.getElem?_eq_getElem hl, List.getElem_idxOf]; rfl
  · intro m z' hm hz
    rw [List.getElem?_map] at hz
    obtain ⟨y, hy, rfl⟩ := Option.map_eq_some_iff.mp hz
    have hml : m < ns.length := by omega
    have e : ns[m] = y := by rw [List.getElem?_eq_getElem hml] at hy; exact Option.some.inj hy
    have ne : y ≠ x := fun z => by
      have h1 : ns.idxOf x ≤ m := by
        rw [← z]
        exact idxOf_le hy
      omega
    simp [eqV, ne]
theorem s_chain (k : ta σ H fun x H1 => tb σ H1 fun y H2 => r x y H2 fun z H3 => ∃ k, z = .bl k ∧ (if k = true then tc σ H3 fun w' H4 => r' y w' H4 Q else Q (.bl false) H3)) : tChain r r' ta tb tc σ H Q := k
def AugAt (i : Nat) (ti : TIp) (D : Ends) (σ : L2.St) (x y : V) (H : Hp) : Prop := ti x y H fun z H2 => D.nx (σ.set i (some z)) H2
theorem s_aug {i : Nat} {ti : TIp} {v : V} (h : σ[i]? = some (some v)) (k : te σ H fun y H1 => AugAt i ti D σ v y H1) : tAug i te ti D σ H := ⟨v, h, k⟩
theorem s_ip {i0 : Nat} {g : Int → Int → Int} (k : D.nx (σ.set i0 (some (.int (g i j)))) H) : AugAt i0 (ipI g) D σ (.int i) (.int j) H := ⟨i, j, rfl, rfl, k⟩
/-! what stands and is read alone -/
theorem s_lenH (h : H a = some (.lst xs)) (k : Q (.int (xs.length : Int)) H) : rLenK K [.ref a] H Q := ⟨a, xs, rfl, .inl (SqL.of h), k⟩
theorem s_ixH (h : H a = some (.lst xs)) (e : xs[n]? = some v) (k : Q v H) : rIxL K (.ref a) (.int (n : Int)) H Q := ⟨a, xs, _, v, rfl, rfl, SqL.of h, atI_nat e, k⟩
end
end My
namespace My
open PySem PySem.Spec PyProof.Rows L2 LamX
theorem cdivw {i j : Int} (h : 0 < j) (h2 : j.natAbs.log2 < 9000) : CDivW i j := ⟨h, h2⟩
theorem rgC_pos {len c : Nat} (hc : 1 ≤ c) (hc2 : c ≤ 100000) (hl : len ≤ 100000) : RgC 0 (len : Int) (c : Int) ((len + c - 1) / c) := by
  have e : Builtin.Range.rangeSize 0 (len : Int) (c : Int) = (((len + c - 1) / c : Nat) : Int) := by
    rw [PyProof.Rows.rangeSize_pos (by omega) (by omega)]
    have e1 : (len : Int) + (c : Int) - 1 = ((len + c - 1 : Nat) : Int) := by omega
    rw [e1]; rfl
  have hn : (len + c - 1) / c ≤ len + c := Nat.le_trans (Nat.div_le_self _ _) (by omega)
  refine ⟨by omega, by omega, ?_, e⟩
  unfold Builtin.Range.small
  rw [e]
  have e3 : (c : Int) > 0 := by omega
  have hb : ((len + c - 1) / c) * c ≤ len + c - 1 := Nat.div_mul_le_self _ _
  have hb2 : (((len + c - 1) / c : Nat) : Int) * (c : Int) ≤ 200000 := by
    have : ((((len + c - 1) / c) * c : Nat) : Int) ≤ 200000 := by omega
    rwa [Int.natCast_mul] at this
  simp only [Builtin.Range.rangeFitsLong, Bool.and_eq_true, Bool.or_eq_true, decide_eq_true_eq, beq_iff_eq, e3, if_true]
  clear e hb hb2
  generalize (len + c - 1) / c = N at hn ⊢
  refine ⟨⟨⟨⟨?_, ?_⟩, ?_, ?_⟩, ?_, ?_⟩, Or.inr ⟨?_, ?_⟩⟩ <;> omega
theorem rg_lt {len c i : Nat} (hc : 1 ≤ c) (h : i < (len + c - 1) / c) : i * c < len := by
  have h1 : (i + 1) * c ≤ (len + c - 1) / c * c := Nat.mul_le_mul_right _ (by omega)
  have h2 := Nat.div_mul_le_self (len + c - 1) c
  rw [Nat.add_mul] at h1
  omega
section
variable {K : PySem.W.Frag} {H0 H H' : Hp} {T : List (Addr × Str)} {L L' : List Cell} {a p : Addr} {qs : List Addr} {fam : List (List Int)} {f ns : List Int} {σ : L2.St} {Q : VK} {n kx : Nat} {xs : List V} {x i j c : Int} {D : Ends} {t : TA} {g : TG} {s : TS}
def ItR3 (vs : List V) (H : Hp) (R : It → Hp → Prop) : Prop := ∃ (i j c : Int) (n : Nat), vs = [.int i, .int j, .int c] ∧ RgC i j c n ∧ R (Itc i c n) H
theorem s_iRng3 {R : It → Hp → Prop} (k : t σ H fun vs H1 => ItR3 vs H1 R) : iRng3 t σ H R := k
theorem s_itR3 {R : It → Hp → Prop} (h : RgC i j c n) (k : R (Itc i c n) H) : ItR3 [.int i, .int j, .int c] H R := ⟨i, j, c, n, rfl, h, k⟩
theorem s_forC {lo c : Int} (Pv : Nat → L2.St → List Cell → Prop) (B : Own H0 H T L) (start : Pv 0 σ L)
    (turn : ∀ i σ L H, i < n → Pv i σ L → Own H0 H T L → g (.int (lo + (i : Int) * c)) σ H fun σ2 H2 => s { D with nx := Inn H0 T (Pv (i + 1)), ct := Inn H0 T (Pv (i + 1)), bk := D.nx } σ2 H2)
    (last : ∀ σ L H, Pv n σ L → Own H0 H T L → D.nx σ H) : ForG (Itc lo c n) g s D σ H :=
  for_rangeC (lo := lo) (c := c) (n := n) (fun i => Inn H0 T (Pv i)) ⟨L, start, B⟩ (fun i σ H hi ⟨L, h, B⟩ => turn i σ L H hi h B) (fun σ H ⟨L, h, B⟩ => last σ L H h B)
theorem s_neS {a b : Str} (k : Q (.bl (!decide (a = b))) H) : rNe (.str a) (.str b) H Q := ⟨rfl, by
  have e : decide (V.str a = V.str b) = decide (a = b) := by rw [Bool.eq_iff_iff]; simp
  rw [e]; exact k⟩
theorem s_eqS {a b : Str} (k : Q (.bl (decide (a = b))) H) : rEq (.str a) (.str b) H Q := ⟨rfl, by
  have e : decide (V.str a = V.str b) = decide (a = b) := by rw [Bool.eq_iff_iff]; simp
  rw [e]; exact k⟩
theorem s_repI (h : H a = some (.lst (ns.map V.int))) (hs : Sh ns) (hl : ns.length ≤ 4000) (k : Q (.str (dI ns).shown) H) : rRep K [.ref a] H Q := by
  obtain ⟨h1, h2, h3, h4⟩ := askI hs hl
  exact ⟨a, dI ns, rfl, dpI (SqL.of h), h1, h2, h3, h4, k⟩
theorem s_repR (B : Own H0 H T L) [P : Pull L p (.fm p qs (vv fam)) L'] (hs : ∀ b ∈ fam, Sh b ∧ b.length ≤ 300) (hl : fam.length ≤ 300) (k : Q (.str (dR fam).shown) H) : rRep K [.ref p] H Q := by
  obtain ⟨h1, h2, h3, h4⟩ := askR hs hl
  exact ⟨p, dR fam, rfl, dpR (B.getF p) (B.rowsF p), h1, h2, h3, h4, k⟩
/-- a value that is laid out, by what it holds -/
theorem s_repD {d : PyData} (h : Dp K H (.ref a) d) (h1 : d.showable = true) (h2 : d.hasDict = false) (h3 : d.shown.length ≤ sizeLine) (h4 : d.depth ≤ 60) (k : Q (.str d.shown) H) : rRep K [.ref a] H Q := ⟨a, d, rfl, h, h1, h2, h3, h4, k⟩
end
/-! defs that are called where no repr runs -/
structure CalG (P : Program) (w : World) (K : PySem.W.Frag) (mg : Str → Option Value) (base : Heap) (k : Nat) (nm : Str) (ps : List Str) (sp : Sp) : Prop where
  ex : ∃ (f : Addr) (fd : FuncData), FnG P w K mg base k f fd ps sp ∧ mg nm = some (.ref f) ∧ PySem.W.keepIn K (.ref f) = true ∧ Binds K fd ps []
theorem FnG.mono {P : Program} {w : World} {K : PySem.W.Frag} {mg : Str → Option Value} {base : Heap} {j k : Nat} {f : Addr} {fd : FuncData} {ps : List Str} {sp : Sp} (F : FnG P w K mg base j f fd ps sp) (h : j ≤ k) : FnG P w K mg base k f fd ps sp :=
  ⟨F.len, fun A outer s H args us vs Q E hr => F.run A outer s H args us vs Q E (hr.mono h)⟩
theorem CalG.mono {P : Program} {w : World} {K : PySem.W.Frag} {mg : Str → Option Value} {base : Heap} {j k : Nat} {nm : Str} {ps : List Str} {sp : Sp} (C : CalG P w K mg base j nm ps sp) (h : j ≤ k) : CalG P w K mg base k nm ps sp := by
  obtain ⟨f, fd, F, r⟩ := C.ex
  exact ⟨f, fd, F.mono h, r⟩
theorem pe_calG {X : Cx} {k : Nat} {nm : Str} {ps : List Str} {sp : Sp} {e : Expr} {es : List Expr} {p pos : Pos} {t : TA} (C : CalG X.prog X.w X.K X.mg X.base k nm ps sp) (room : Room k X.A) (gu : X.A.guards = some []) (gl : Gl X nm) (ha : PA X (e :: es) t)
    (hdb : (nm == ("__debug__" : Str)) = false := by decide) (he : starEach (e :: es) X.env = (false, eval e X.env) :: starEach es X.env := by rfl) (hpl : (backTo pos (starEach es X.env)).any (·.1) = false := by rfl) :
    PE X (.Call (.Name nm p) (e :: es) [] pos) (tCall sp [] E0 t) := by
  obtain ⟨f, fd, F, g, kp, b⟩ := C.ex
  exact pe_callG F room gu gl g kp b pass0 ha hdb he hpl
end My
namespace My
open PySem PySem.Spec PyProof.Rows L2 LamX
section
variable {K : PySem.W.Frag} {H0 H H' : Hp} {T : List (Addr × Str)} {L L' L1 : List Cell} {a b p l l2 : Addr} {xs ys : List V} {ns ms : List Int} {Q : VK}
theorem eqvA_I : ∀ ns ms : List Int, PyData.eqvAll (ns.map PyData.int) (ms.map PyData.int) = decide (ns = ms)
  | [], [] => by simp [PyData.eqvAll]
  | [], _ :: _ => by simp [PyData.eqvAll]
  | _ :: _, [] => by simp [PyData.eqvAll]
  | n :: ns, m :: ms => by
    have ih := eqvA_I ns ms
    rw [List.map_cons, List.map_cons]
    simp only [PyData.eqvAll, PyData.eqv, ih]
    rw [Bool.eq_iff_iff]
    simp
theorem eqv_II (ns ms : List Int) : PyData.eqv (dI ns) (dI ms) = decide (ns = ms) := by
  unfold dI
  simp only [PyData.eqv]
  exact eqvA_I ns ms
theorem s_eqDI (h1 : H a = some (.lst (ns.map V.int))) (h2 : H b = some (.lst (ms.map V.int))) (k : Q (.bl (decide (ns = ms))) H) : rEqD K (.ref a) (.ref b) H Q :=
  ⟨dI ns, dI ms, dpI (SqL.of h1), dpI (SqL.of h2), shaped_I _, shaped_I _, by rw [eqv_II]; exact k⟩
theorem s_neDI (h1 : H a = some (.lst (ns.map V.int))) (h2 : H b = some (.lst (ms.map V.int))) (k : Q (.bl (!decide (ns = ms))) H) : rNeD K (.ref a) (.ref b) H Q :=
  ⟨dI ns, dI ms, dpI (SqL.of h1), dpI (SqL.of h2), shaped_I _, shaped_I _, by rw [eqv_II]; exact k⟩
/-- a family of two that was just written -/
theorem Own.two (B : Own H0 H T (.ob p (.lst [.ref l, .ref l2]) :: .ob l2 (.lst ys) :: .ob l (.lst xs) :: L)) : Own H0 H T (.fm p [l, l2] [xs, ys] :: L) := by
  have B1 : Own H0 H T (.ob l (.lst xs) :: .rs [] [] :: .ob l2 (.lst ys) :: .ob p (.lst [.ref l, .ref l2]) :: L) := (Own.rs0 B).arr
  have B2 := B1.pushR
  have B3 : Own H0 H T (.ob l2 (.lst ys) :: .rs [l] [xs] :: .ob p (.lst [.ref l, .ref l2]) :: L) := (show Own H0 H T (.rs [l] [xs] :: .ob l2 (.lst ys) :: .ob p (.lst [.ref l, .ref l2]) :: L) from B2).arr
  have B4 := B3.pushR
  have B5 : Own H0 H T (.ob p (.lst ([l, l2].map V.ref)) :: .rs [l, l2] [xs, ys] :: L) := (show Own H0 H T (.rs [l, l2] [xs, ys] :: .ob p (.lst ([l, l2].map V.ref)) :: L) from B4).arr
  exact B5.closeR
theorem Own.one (B : Own H0 H T (.ob p (.lst [.ref l]) :: .ob l (.lst xs) :: L)) : Own H0 H T (.fm p [l] [xs] :: L) := by
  have B1 : Own H0 H T (.ob l (.lst xs) :: .rs [] [] :: .ob p (.lst [.ref l]) :: L) := (Own.rs0 B).arr
  have B2 := B1.pushR
  have B5 : Own H0 H T (.ob p (.lst ([l].map V.ref)) :: .rs [l] [xs] :: L) := (show Own H0 H T (.rs [l] [xs] :: .ob p (.lst ([l].map V.ref)) :: L) from B2).arr
  exact B5.closeR
end
end My
namespace My
open PySem PySem.Spec PyProof.Rows L2 LamX
theorem Cal.of {P : Program} {w : World} {K : PySem.W.Frag} {mg : Str → Option Value} {base : Heap} {k : Nat} {f : Addr} {fd : FuncData} {nm : Str} {ps : List Str} {sp : Sp} (F : FnOk P w K mg base CX0 k f fd ps sp) (g : mg nm = some (.ref f)) (kp : PySem.W.keepIn K (.ref f) = true) (b : Binds K fd ps []) : Cal P w K mg base k nm ps sp := ⟨f, fd, F, g, kp, b⟩
theorem CalG.of {P : Program} {w : World} {K : PySem.W.Frag} {mg : Str → Option Value} {base : Heap} {k : Nat} {f : Addr} {fd : FuncData} {nm : Str} {ps : List Str} {sp : Sp} (F : FnG P w K mg base k f fd ps sp) (g : mg nm = some (.ref f)) (kp : PySem.W.keepIn K (.ref f) = true) (b : Binds K fd ps []) : CalG P w K mg base k nm ps sp := ⟨f, fd, F, g, kp, b⟩
end My
namespace My
open PySem PySem.Spec PyProof.Rows L2 LamX
section
variable {K : PySem.W.Frag} {H0 H H' : Hp} {T : List (Addr × Str)} {L L' L1 : List Cell} {a b p l l2 : Addr} {xs ys : List V} {ns ms : List Int} {Q : VK} {σ : L2.St} {te : TE} {s : TS} {D : Ends} {tt : TT} {Qb : Bool → Hp → Prop}
/-- one way on for all ways of an expression -/
theorem s_key (P : V → Hp → Prop) (h : (∀ v H', P v H' → Q v H') → te σ H Q) (k : ∀ v H', P v H' → Q v H') : te σ H Q := h k
theorem s_keyS (P : L2.St → Hp → Prop) (h : (∀ σ' H', P σ' H' → D.nx σ' H') → s D σ H) (k : ∀ σ' H', P σ' H' → D.nx σ' H') : s D σ H := h k
theorem s_keyT (P : Bool → Hp → Prop) (h : (∀ v H', P v H' → Qb v H') → tt σ H Qb) (k : ∀ v H', P v H' → Qb v H') : tt σ H Qb := h k
theorem s_repB2 {b1 b2 : Bool} (h : H a = some (.lst [.bl b1, .bl b2])) (k : Q (.str (PyData.list [.bool b1, .bool b2]).shown) H) : rRep K [.ref a] H Q := by
  refine ⟨a, .list [.bool b1, .bool b2], rfl, .lst (SqL.of h) (.cons (.bl b1) (.cons (.bl b2) .nil)), ?_, ?_, ?_, ?_, k⟩
  · cases b1 <;> cases b2 <;> decide +kernel
  · cases b1 <;> cases b2 <;> decide +kernel
  · cases b1 <;> cases b2 <;> decide +kernel
  · cases b1 <;> cases b2 <;> decide +kernel
/-- data, three deep: a list of families or of lists -/
theorem depthAll_le {ds : List PyData} {m : Nat} (h : ∀ d ∈ ds, d.depth ≤ m) : PyData.depthAll ds ≤ m := by
  induction ds with
  | nil => simp [PyData.depthAll]
  | cons d ds ih =>
    have h1 := h d (List.mem_cons_self ..)
    have h2 := ih fun x hx => h x (List.mem_cons_of_mem _ hx)
    simp only [PyData.depthAll]
    omega
end
end My
namespace My
open PySem PySem.Spec PyProof.Rows L2 LamX
theorem lc_en {K : PySem.W.Frag} {a : Addr} {xs : List V} {g : TG} {tt : TT} {te : TE} {vs : List Nat} {sg : L2.St} {H1 : Hp} {D : Addr} {Qd : Hp → Prop} (Pv : Nat → Hp → Prop) (start : Pv 0 (upd H1 D (.lst [])))
    (stays : ∀ i H, i ≤ xs.length → Pv i H → SqL K H a xs)
    (turn : ∀ i x H T, xs[i]? = some x → Pv i H → H T = none → g (.ref T) (wipe sg vs) (upd H T (.tup [.int (i : Nat), x])) fun sg2 H2 => wipe sg2 vs = wipe sg vs ∧ tt sg2 H2 fun b H3 =>
      if b = true then te sg2 H3 fun y H4 => ∃ acc, H4 D = some (.lst acc) ∧ acc.length < sizeLine ∧ Pv (i + 1) (upd H4 D (.lst (acc ++ [y]))) else Pv (i + 1) H3)
    (last : ∀ H, Pv xs.length H → Qd H) :
    ∃ W : Nat → Nat → Hp → Prop, (∃ m, W 0 m (upd H1 D (.lst []))) ∧ ∀ i m H, W i m H →
      ((Ite K a).stop i H ∧ Qd H) ∨ ((Ite K a).go i H ∧ ∃ Nx : Hp → Prop, (∀ H', Nx H' → ∃ m', m' < m ∧ W (i + 1) m' H') ∧ ∀ x H', (Ite K a).yld i H x H' → g x (wipe sg vs) H' fun sg2 H2 => wipe sg2 vs = wipe sg vs ∧ tt sg2 H2 fun b H3 =>
        if b = true then te sg2 H3 fun y H4 => ∃ acc, H4 D = some (.lst acc) ∧ acc.length < sizeLine ∧ Nx (upd H4 D (.lst (acc ++ [y]))) else Nx H3) := by
  refine ⟨fun i m H => m = xs.length - i ∧ i ≤ xs.length ∧ Pv i H, ⟨xs.length, rfl, Nat.zero_le _, start⟩, ?_⟩
  rintro i m H ⟨em, le, p⟩
  have sq := stays i H le p
  rcases Nat.lt_or_ge i xs.length with lt | ge
  · have at1 : xs[i]? = some xs[i] := List.getElem?_eq_getElem lt
    refine Or.inr ⟨⟨xs, xs[i], sq, at1⟩, Pv (i + 1), ?_, ?_⟩
    · intro H' p'
      exact ⟨xs.length - (i + 1), by omega, rfl, lt, p'⟩
    · rintro x H' ⟨T, y, e1, nT, e2, f⟩
      have ey := f xs sq
      subst e1 e2
      exact turn i y H T ey p nT
  · have e : i = xs.length := by omega
    subst e
    exact Or.inl ⟨⟨xs, sq, Nat.le_refl _⟩, last H p⟩

/-! large ints, laid out -/
def Bg (ns : List Int) : Prop := ∀ x ∈ ns, x.natAbs < 2 ^ 1300
theorem bshow : ∀ ns : List Int, Bg ns → PyData.showableAll (ns.map PyData.int) = true
  | [], _ => by simp [PyData.showableAll]
  | n :: ns, h => by
    have h1 := h n (List.mem_cons_self ..)
    have h2 := bshow ns fun x hx => h x (List.mem_cons_of_mem _ hx)
    have z := PySem.Flt.log2_lt_of (show 0 < 1300 by decide) h1
    have h3 : n.natAbs.log2 < 1920 := by omega
    simp [PyData.showableAll, PyData.showable, h2, h3]
theorem big10 : (2 : Nat) ^ 1300 ≤ 10 ^ 400 := by decide +kernel
theorem bint_len {i : Int} (h : i.natAbs < 2 ^ 1300) : (PyData.int i).shown.length ≤ 401 := by
  have e := PySem.int_text_length_le10 (a := i) (k := 400) (by decide) (Nat.lt_of_lt_of_le h big10)
  rw [PyData.shown_int]
  show (Str.ofString (toString i)).length ≤ 401
  rw [PySem.ofString_length]
  exact e
theorem bsum : ∀ ns : List Int, Bg ns → ((PyData.shownAll (ns.map PyData.int)).map (·.length)).sum ≤ 401 * ns.length
  | [], _ => by simp [PyData.shownAll]
  | n :: ns, h => by
    have h1 := bint_len (h n (List.mem_cons_self ..))
    have h2 := bsum ns fun x hx => h x (List.mem_cons_of_mem _ hx)
    simp only [List.map_cons, PyData.shownAll, List.sum_cons, List.length_cons]
    omega
section
variable {K : PySem.W.Frag} {H0 H H' : Hp} {T : List (Addr × Str)} {L L' L1 : List Cell} {a p : Addr} {xs : List V} {ns : List Int} {qs : List Addr} {fam : List (List Int)} {Q : VK} {σ : L2.St} {vs : List Nat} {tt : TT} {te : TE} {k1 k2 : Nat}
theorem s_repB (h : H a = some (.lst (ns.map V.int))) (hs : Bg ns) (hl : ns.length ≤ 1000) (k : Q (.str (dI ns).shown) H) : rRep K [.ref a] H Q := by
  refine ⟨a, dI ns, rfl, dpI (SqL.of h), ?_, ?_, ?_, ?_, k⟩
  · unfold dI; simp only [PyData.showable]; exact bshow ns hs
  · unfold dI; simp only [PyData.hasDict]; exact nodict_I ns
  · have h1 := listText_len_le (PyData.shownAll (ns.map PyData.int))
    have h2 := bsum ns hs
    rw [PyData.shownAll_length, List.length_map] at h1
    unfold dI
    simp only [PyData.shown]
    unfold sizeLine
    omega
  · have := dI_depth ns; omega
/-- a comprehension over enumerate(xs) -/
theorem s_lcE (Pv : Nat → List V → List Cell → Prop) (xs : List V) (B : Own H0 H T L) (start : Pv 0 [] L) (stays : ∀ i acc L H, Pv i acc L → Own H0 H T L → SqL K H a xs)
    (wp : ∀ x y : V, wipe (((wipe σ vs).set k1 (some x)).set k2 (some y)) vs = wipe σ vs)
    (turn : ∀ D i x acc L H, xs[i]? = some x → Pv i acc L → Own H0 H T (.ob D (.lst acc) :: L) → tt (((wipe σ vs).set k1 (some (.int (i : Int)))).set k2 (some x)) H fun b H3 =>
      if b = true then te (((wipe σ vs).set k1 (some (.int (i : Int)))).set k2 (some x)) H3 fun y H4 => ∃ acc, H4 D = some (.lst acc) ∧ acc.length < sizeLine ∧ NoEl H0 T D (Pv (i + 1)) (upd H4 D (.lst (acc ++ [y]))) else NoEl H0 T D (Pv (i + 1)) H3)
    (last : ∀ D acc L H, Pv xs.length acc L → Own H0 H T (.ob D (.lst acc) :: L) → Q (.ref D) H) : LcG (Ite K a) (gTup K 2 (gCons (gName k1) (gCons (gName k2) gNil))) tt te vs σ Q H := fun D nD =>
  lc_en (K := K) (a := a) (xs := xs) (fun i => NoEl H0 T D (Pv i)) ⟨[], L, B.new nD trivial, start⟩ (fun i H _ ⟨acc, L, B, h⟩ => stays i acc L H h B.tail)
    (fun i x H tp hx ⟨acc, L, B, h⟩ n => ⟨tp, _, rfl, SqT.of upd_same, rfl, _, _, rfl, _, _, rfl, rfl, wp _ _, turn D i x acc L _ hx h (B.new (o := .tup [.int (i : Nat), x]) n trivial).tail⟩) (fun H ⟨acc, L, B, h⟩ => last D acc L H h B)
/-- [index for index, queue in enumerate(family) if x in queue] -/
theorem s_lcWhere {x : Int} {j0 : Nat} (B : Own H0 H T L) [P : Pull L p (.fm p qs (vv fam)) L'] (hsm : fam.length ≤ 1000) (hj0 : j0 < fam.length) (hx : ∀ j f, fam[j]? = some f → (x ∈ f ↔ j = j0))
    (wp : ∀ x y : V, wipe (((wipe σ vs).set k1 (some x)).set k2 (some y)) vs = wipe σ vs)
    (test : ∀ (D : Addr) (acc : List V) (j : Nat) (q : Addr) (f : List Int) (H : Hp) (Qb : Bool → Hp → Prop), fam[j]? = some f → H q = some (.lst (f.map V.int)) → Own H0 H T (.ob D (.lst acc) :: L) → (∀ H', Own H0 H' T (.ob D (.lst acc) :: L) → Qb (decide (x ∈ f)) H') →
      tt (((wipe σ vs).set k1 (some (.int (j : Int)))).set k2 (some (.ref q))) H Qb)
    (elem : ∀ (x y : V) (H : Hp) (Q : VK), Q x H → te (((wipe σ vs).set k1 (some x)).set k2 (some y)) H Q)
    (last : ∀ D H, Own H0 H T (.ob D (.lst [.int (j0 : Int)]) :: L) → Q (.ref D) H) : LcG (Ite K p) (gTup K 2 (gCons (gName k1) (gCons (gName k2) gNil))) tt te vs σ Q H := by
  have hl := B.lenF p
  refine s_lcE (fun i acc M => acc = (if j0 < i then [V.int (j0 : Int)] else []) ∧ M = L) (qs.map V.ref) B ⟨rfl, rfl⟩ ?_ wp ?_ ?_
  · rintro i acc M H ⟨_, rfl⟩ B
    exact SqL.of (B.getF p)
  · rintro D i v acc M H hv ⟨rfl, rfl⟩ B
    rw [List.getElem?_map] at hv
    obtain ⟨q, hq, rfl⟩ := Option.map_eq_some_iff.mp hv
    obtain ⟨f, ef, hf⟩ := B.tail.rowOf p hq
    refine test D _ i q f H _ ef hf B fun H B => ?_
    have hi := hx i f ef
    by_cases h : x ∈ f
    · rw [decide_eq_true h]
      have e : i = j0 := hi.mp h
      subst e
      refine iteT (elem _ _ _ _ (s_el B ?_ ⟨?_, rfl⟩))
      · split <;> (unfold sizeLine; simp)
      · rw [if_neg (Nat.lt_irrefl _), if_pos (Nat.lt_succ_self _)]; rfl
    · rw [decide_eq_false h]
      refine iteF (NoEl.mk B ⟨?_, rfl⟩)
      have e : i ≠ j0 := fun z => h (hi.mpr z)
      by_cases h2 : j0 < i
      · rw [if_pos h2, if_pos (by omega)]
      · rw [if_neg h2, if_neg (by omega)]
  · rintro D acc M H ⟨rfl, rfl⟩ B
    rw [List.length_map, if_pos (by omega)] at B
    exact last D H B
end
end My
namespace My
open PySem PySem.Spec PyProof.Rows L2 LamX
section
variable {K : PySem.W.Frag} {H0 H H' : Hp} {T : List (Addr × Str)} {L L' L1 : List Cell} {a p p2 : Addr} {qs qs2 : List Addr} {fam fam2 : List (List Int)} {Q : VK}
theorem eqvA_R : ∀ fs gs : List (List Int), PyData.eqvAll (fs.map dI) (gs.map dI) = decide (fs = gs)
  | [], [] => by simp [PyData.eqvAll]
  | [], _ :: _ => by simp [PyData.eqvAll]
  | _ :: _, [] => by simp [PyData.eqvAll]
  | f :: fs, g :: gs => by
    have ih := eqvA_R fs gs
    rw [List.map_cons, List.map_cons]
    simp only [PyData.eqvAll, eqv_II, ih]
    rw [Bool.eq_iff_iff]
    simp
theorem eqv_RR (fs gs : List (List Int)) : PyData.eqv (dR fs) (dR gs) = decide (fs = gs) := by
  unfold dR
  simp only [PyData.eqv]
  exact eqvA_R fs gs
theorem s_eqRR (B : Own H0 H T L) [P1 : Pull L p (.fm p qs (vv fam)) L'] [P2 : Pull L p2 (.fm p2 qs2 (vv fam2)) L1] (k : Q (.bl (decide (fam = fam2))) H) : rEqD K (.ref p) (.ref p2) H Q :=
  ⟨dR fam, dR fam2, dpR (B.getF p) (B.rowsF p), dpR (B.getF p2) (B.rowsF p2), shapedR _, shapedR _, by rw [eqv_RR]; exact k⟩
theorem s_neRR (B : Own H0 H T L) [P1 : Pull L p (.fm p qs (vv fam)) L'] [P2 : Pull L p2 (.fm p2 qs2 (vv fam2)) L1] (k : Q (.bl (!decide (fam = fam2))) H) : rNeD K (.ref p) (.ref p2) H Q :=
  ⟨dR fam, dR fam2, dpR (B.getF p) (B.rowsF p), dpR (B.getF p2) (B.rowsF p2), shapedR _, shapedR _, by rw [eqv_RR]; exact k⟩
theorem s_neB {b c : Bool} (k : Q (.bl (!decide (b = c))) H) : rNe (.bl b) (.bl c) H Q := ⟨rfl, by
  have e : decide (V.bl b = V.bl c) = decide (b = c) := by rw [Bool.eq_iff_iff]; simp
  rw [e]; exact k⟩
theorem s_eqB {b c : Bool} (k : Q (.bl (decide (b = c))) H) : rEq (.bl b) (.bl c) H Q := ⟨rfl, by
  have e : decide (V.bl b = V.bl c) = decide (b = c) := by rw [Bool.eq_iff_iff]; simp
  rw [e]; exact k⟩
end
end My
namespace My
open PySem PySem.Spec PyProof.Rows L2 LamX
/-! a comprehension over zip(xs, ys) -/
theorem lc_zp {K : PySem.W.Frag} {a b : Addr} {xs ys : List V} {g : TG} {tt : TT} {te : TE} {vs : List Nat} {sg : L2.St} {H1 : Hp} {D : Addr} {Qd : Hp → Prop} (hl : xs.length = ys.length) (Pv : Nat → Hp → Prop) (start : Pv 0 (upd H1 D (.lst [])))
    (stays : ∀ i H, i ≤ xs.length → Pv i H → SqL K H a xs ∧ SqL K H b ys)
    (turn : ∀ i x y H T, xs[i]? = some x → ys[i]? = some y → Pv i H → H T = none → g (.ref T) (wipe sg vs) (upd H T (.tup [x, y])) fun sg2 H2 => wipe sg2 vs = wipe sg vs ∧ tt sg2 H2 fun b H3 =>
      if b = true then te sg2 H3 fun y H4 => ∃ acc, H4 D = some (.lst acc) ∧ acc.length < sizeLine ∧ Pv (i + 1) (upd H4 D (.lst (acc ++ [y]))) else Pv (i + 1) H3)
    (last : ∀ H, Pv xs.length H → Qd H) :
    ∃ W : Nat → Nat → Hp → Prop, (∃ m, W 0 m (upd H1 D (.lst []))) ∧ ∀ i m H, W i m H →
      ((Itz K a b).stop i H ∧ Qd H) ∨ ((Itz K a b).go i H ∧ ∃ Nx : Hp → Prop, (∀ H', Nx H' → ∃ m', m' < m ∧ W (i + 1) m' H') ∧ ∀ x H', (Itz K a b).yld i H x H' → g x (wipe sg vs) H' fun sg2 H2 => wipe sg2 vs = wipe sg vs ∧ tt sg2 H2 fun b H3 =>
        if b = true then te sg2 H3 fun y H4 => ∃ acc, H4 D = some (.lst acc) ∧ acc.length < sizeLine ∧ Nx (upd H4 D (.lst (acc ++ [y]))) else Nx H3) := by
  refine ⟨fun i m H => m = xs.length - i ∧ i ≤ xs.length ∧ Pv i H, ⟨xs.length, rfl, Nat.zero_le _, start⟩, ?_⟩
  rintro i m H ⟨em, le, p⟩
  obtain ⟨s1, s2⟩ := stays i H le p
  rcases Nat.lt_or_ge i xs.length with lt | ge
  · have at1 : xs[i]? = some xs[i] := List.getElem?_eq_getElem lt
    have at2 : ys[i]? = some (ys[i]'(by omega)) := List.getElem?_eq_getElem (by omega)
    refine Or.inr ⟨⟨xs, ys, _, _, s1, s2, at1, at2⟩, Pv (i + 1), ?_, ?_⟩
    · intro H' p'
      exact ⟨xs.length - (i + 1), by omega, rfl, lt, p'⟩
    · rintro v H' ⟨T, x, y, e1, nT, e2, f1, f2⟩
      have ex := f1 xs s1
      have ey := f2 ys s2
      subst e1 e2
      exact turn i x y H T ex ey p nT
  · have e : i = xs.length := by omega
    subst e
    exact Or.inl ⟨⟨xs, ys, s1, s2, Or.inl (Nat.le_refl _)⟩, last H p⟩
section
variable {K : PySem.W.Frag} {H0 H H' : Hp} {T : List (Addr × Str)} {L L' L1 : List Cell} {a b p p2 : Addr} {xs ys : List V} {qs qs2 : List Addr} {fam fam2 : List (List Int)} {Q : VK} {σ : L2.St} {vs : List Nat} {tt : TT} {te : TE} {k1 k2 : Nat} {t : TA} {s : TS} {D : Ends}
def ItZ (K : PySem.W.Frag) (vs : List V) (H : Hp) (R : It → Hp → Prop) : Prop := ∃ a b xs ys, vs = [.ref a, .ref b] ∧ ((SqL K H a xs ∧ SqL K H b ys ∧ R (Itz K a b) H) ∨ (SqT K H a xs ∧ SqT K H b ys ∧ R (RZ.ItzT K a b) H))
theorem s_iZip {R : It → Hp → Prop} (k : t σ H fun vs H1 => ItZ K vs H1 R) : RZ.iZipA K t σ H R := k
theorem s_itZ {R : It → Hp → Prop} (h1 : SqL K H a xs) (h2 : SqL K H b ys) (k : R (Itz K a b) H) : ItZ K [.ref a, .ref b] H R := ⟨a, b, xs, ys, rfl, .inl ⟨h1, h2, k⟩⟩
theorem s_lcZ (Pv : Nat → List V → List Cell → Prop) (xs ys : List V) (hl : xs.length = ys.length) (B : Own H0 H T L) (start : Pv 0 [] L) (stays : ∀ i acc L H, Pv i acc L → Own H0 H T L → SqL K H a xs ∧ SqL K H b ys)
    (wp : ∀ x y : V, wipe (((wipe σ vs).set k1 (some x)).set k2 (some y)) vs = wipe σ vs)
    (turn : ∀ D i x y acc L H, xs[i]? = some x → ys[i]? = some y → Pv i acc L → Own H0 H T (.ob D (.lst acc) :: L) → tt (((wipe σ vs).set k1 (some x)).set k2 (some y)) H fun b H3 =>
      if b = true then te (((wipe σ vs).set k1 (some x)).set k2 (some y)) H3 fun y H4 => ∃ acc, H4 D = some (.lst acc) ∧ acc.length < sizeLine ∧ NoEl H0 T D (Pv (i + 1)) (upd H4 D (.lst (acc ++ [y]))) else NoEl H0 T D (Pv (i + 1)) H3)
    (last : ∀ D acc L H, Pv xs.length acc L → Own H0 H T (.ob D (.lst acc) :: L) → Q (.ref D) H) : LcG (Itz K a b) (gTup K 2 (gCons (gName k1) (gCons (gName k2) gNil))) tt te vs σ Q H := fun D nD =>
  lc_zp (K := K) (a := a) (b := b) (xs := xs) (ys := ys) hl (fun i => NoEl H0 T D (Pv i)) ⟨[], L, B.new nD trivial, start⟩ (fun i H _ ⟨acc, L, B, h⟩ => stays i acc L H h B.tail)
    (fun i x y H tp hx hy ⟨acc, L, B, h⟩ n => ⟨tp, _, rfl, SqT.of upd_same, rfl, _, _, rfl, _, _, rfl, rfl, wp _ _, turn D i x y acc L _ hx hy h (B.new (o := .tup [x, y]) n trivial).tail⟩) (fun H ⟨acc, L, B, h⟩ => last D acc L H h B)
/-! two families in a list -/
theorem dR_sum {bs : List (List Int)} (h : ∀ b ∈ bs, Sh b ∧ b.length ≤ 300) (hl : bs.length ≤ 300) : (dR bs).shown.length ≤ 3200000 := by
  have h1 := listText_len_le (PyData.shownAll (bs.map dI))
  have h2 := sumR 300 bs h
  have h3 : (35 * 300 + 3) * bs.length ≤ (35 * 300 + 3) * 300 := Nat.mul_le_mul_left _ hl
  rw [PyData.shownAll_length, List.length_map] at h1
  unfold dR
  simp only [PyData.shown]
  omega
theorem s_repF2 (B : Own H0 H T L) [P1 : Pull L p (.fm p qs (vv fam)) L'] [P2 : Pull L p2 (.fm p2 qs2 (vv fam2)) L1] (h : H a = some (.lst [.ref p, .ref p2])) (h1 : ∀ b ∈ fam, Sh b ∧ b.length ≤ 300) (l1 : fam.length ≤ 300) (h2 : ∀ b ∈ fam2, Sh b ∧ b.length ≤ 300) (l2 : fam2.length ≤ 300)
    (k : Q (.str (PyData.list [dR fam, dR fam2]).shown) H) : rRep K [.ref a] H Q := by
  obtain ⟨a1, a2, _, _⟩ := askR h1 l1
  obtain ⟨b1, b2, _, _⟩ := askR h2 l2
  have c1 := dR_sum h1 l1
  have c2 := dR_sum h2 l2
  refine ⟨a, .list [dR fam, dR fam2], rfl, .lst (SqL.of h) (.cons (dpR (B.getF p) (B.rowsF p)) (.cons (dpR (B.getF p2) (B.rowsF p2)) .nil)), ?_, ?_, ?_, ?_, k⟩
  · simp only [PyData.showable, PyData.showableAll, a1, b1, Bool.and_true]
  · simp only [PyData.hasDict, PyData.hasDictAll, a2, b2, Bool.or_false]
  · have z := listText_len_le (PyData.shownAll [dR fam, dR fam2])
    simp only [PyData.shown]
    simp only [PyData.shownAll, List.map_cons, List.map_nil, List.sum_cons, List.sum_nil, List.length_cons, List.length_nil] at z ⊢
    unfold sizeLine
    omega
  · have e : (PyData.list [dR fam, dR fam2]).depth ≤ 4 := by
      have d1 := dR_depth fam
      have d2 := dR_depth fam2
      have := depthAll_le (ds := [dR fam, dR fam2]) (m := 3) (fun d hd => by
        simp only [List.mem_cons, List.mem_nil_iff, or_false] at hd
        rcases hd with rfl | rfl
        · exact d1
        · exact d2)
      simp only [PyData.depth]
      omega
    omega
/-- three lists of ints in a list -/
theorem s_repI3 {a1 a2 a3 : Addr} {n1 n2 n3 : List Int} (h : H a = some (.lst [.ref a1, .ref a2, .ref a3])) (h1 : H a1 = some (.lst (n1.map V.int))) (h2 : H a2 = some (.lst (n2.map V.int))) (h3 : H a3 = some (.lst (n3.map V.int)))
    (s1 : Sh n1 ∧ n1.length ≤ 300) (s2 : Sh n2 ∧ n2.length ≤ 300) (s3 : Sh n3 ∧ n3.length ≤ 300) (k : Q (.str (dR [n1, n2, n3]).shown) H) : rRep K [.ref a] H Q := by
  obtain ⟨q1, q2, q3, q4⟩ := askR (bs := [n1, n2, n3]) (fun b hb => by
    simp only [List.mem_cons, List.mem_nil_iff, or_false] at hb
    rcases hb with rfl | rfl | rfl
    · exact s1
    · exact s2
    · exact s3) (show 3 ≤ 300 by decide)
  exact ⟨a, dR [n1, n2, n3], rfl, .lst (SqL.of h) (.cons (dpI (SqL.of h1)) (.cons (dpI (SqL.of h2)) (.cons (dpI (SqL.of h3)) .nil))), q1, q2, q3, q4, k⟩
end
end My
namespace My
open PySem PySem.Spec PyProof.Rows L2 LamX
theorem s_ixTH {K : PySem.W.Frag} {H : Hp} {a : Addr} {xs : List V} {i : Int} {v : V} {Q : VK} (h : H a = some (.tup xs)) (e : atI xs i = some v) (k : Q v H) : rIxT K (.ref a) (.int i) H Q := ⟨a, xs, i, v, rfl, rfl, SqT.of h, e, k⟩
end My
namespace My
open PySem PySem.Spec PyProof.Rows L2 LamX
theorem pe_gInt {X : Cx} {x : Str} {v : Int} {pos : Pos} (hg : Gl X x) (h : ∃ t, X.mg x = some (Value.int v t)) (hd : (x == ("__debug__" : Str)) = false := by decide) : PE X (.Name x pos) (tC (.int v)) := by
  obtain ⟨t, e⟩ := h
  exact pe_glob hg e ⟨t, rfl⟩ hd
def rDvm : List V → Hp → VK → Prop := fun xs H Q => ∃ i j, xs = [.int i, .int j] ∧ CDiv i j ∧ ∀ p, H p = none → Q (.ref p) (upd H p (.tup [.int (i / j), .int (i % j)]))
theorem cl_divmod {X : Cx} : CallR X (.builtin "divmod") rDvm := call_divmod
section
variable {K : PySem.W.Frag} {H0 H H' : Hp} {T : List (Addr × Str)} {L : List Cell} {a b : Addr} {xs ys : List V} {Q : VK} {σ : L2.St} {k1 k2 : Nat} {s : TS} {D : Ends} {i j : Int}
theorem s_divmod (B : Own H0 H T L) (h0 : 0 < j) (h1 : j < 1073741824) (k : ∀ p H', Own H0 H' T (.ob p (.tup [.int (i / j), .int (i % j)]) :: L) → Q (.ref p) H') : rDvm [.int i, .int j] H Q := ⟨i, j, rfl, ⟨h0, h1⟩, fun p n => k p _ (B.new n trivial)⟩
/-- for x, y in zip(xs, ys) -/
theorem s_forZ (Pv : Nat → L2.St → List Cell → Prop) (xs ys : List V) (hl : xs.length = ys.length) (B : Own H0 H T L) (start : Pv 0 σ L) (stays : ∀ i σ L H, Pv i σ L → Own H0 H T L → SqL K H a xs ∧ SqL K H b ys)
    (turn : ∀ i x y σ L H, xs[i]? = some x → ys[i]? = some y → Pv i σ L → Own H0 H T L → s { D with nx := Inn H0 T (Pv (i + 1)), ct := Inn H0 T (Pv (i + 1)), bk := D.nx } ((σ.set k1 (some x)).set k2 (some y)) H)
    (last : ∀ σ L H, Pv xs.length σ L → Own H0 H T L → D.nx σ H) : ForG (Itz K a b) (gTup K 2 (gCons (gName k1) (gCons (gName k2) gNil))) s D σ H :=
  RZ.for_zipL (K := K) (a := a) (b := b) (xs := xs) (ys := ys) hl (fun i => Inn H0 T (Pv i)) ⟨L, start, B⟩ (fun i σ H ⟨L, h, B⟩ => stays i σ L H h B)
    (fun i x y tp σ H hx hy ⟨L, h, B⟩ n => ⟨tp, _, rfl, SqT.of upd_same, rfl, _, _, rfl, _, _, rfl, rfl, turn i x y σ L _ hx hy h (B.new (o := .tup [x, y]) n trivial).tail⟩) (fun σ H ⟨L, h, B⟩ => last σ L H h B)
end
end My
namespace My
open PySem PySem.Spec PyProof.Rows L2 LamX
section
variable {K : PySem.W.Frag} {H0 H H' : Hp} {T : List (Addr × Str)} {L L1 L' : List Cell} {a b l : Addr} {xs ys : List V} {Q : VK} {σ : L2.St} {te : TE} {tl th : TO} {lo hi : Option Int} {ns ms : List Int} {i : Int} {Qo : Option Int → Hp → Prop}
theorem s_sl {r : V → Option Int → Option Int → Hp → VK → Prop} (k : te σ H fun x H1 => tl σ H1 fun l H2 => th σ H2 fun u H3 => r x l u H3 Q) : tSl r te tl th σ H Q := k
theorem s_noPart (k : Qo none H) : tNoPart σ H Qo := k
def PartAt (x : V) (H : Hp) (Qo : Option Int → Hp → Prop) : Prop := ∃ i, x = .int i ∧ Qo (some i) H
theorem s_part (k : te σ H fun x H1 => PartAt x H1 Qo) : tPart te σ H Qo := k
theorem s_partI (k : Qo (some i) H) : PartAt (.int i) H Qo := ⟨i, rfl, k⟩
theorem s_slL (B : Own H0 H T L) (h : H a = some (.lst xs)) (k : ∀ p H', Own H0 H' T (.ob p (.lst (cutV xs lo hi)) :: L) → Q (.ref p) H') : rSlL K (.ref a) lo hi H Q := ⟨a, xs, rfl, SqL.of h, fun p n => k p _ (B.new n trivial)⟩
/-- a list of flat values against the empty list -/
theorem s_eqE {ds : List PyData} (B : Own H0 H T L) [P1 : Pull L a (.ob a (.lst xs)) L'] [P2 : Pull L l (.ob l (.lst [])) L1] (hd : DpAll K H xs ds) (hs : SeqAt.shaped (.list ds) = true) (hl : ds.length = xs.length) (k : Q (.bl xs.isEmpty) H) : rEqD K (.ref a) (.ref l) H Q := by
  refine ⟨.list ds, .list [], .lst (SqL.of (B.get a)) hd, .lst (SqL.of (B.get l)) .nil, hs, shaped_I [], ?_⟩
  have e : PyData.eqv (.list ds) (.list []) = xs.isEmpty := by
    rw [eqv_empty]
    cases ds with
    | nil => cases xs with
      | nil => rfl
      | cons => cases hl
    | cons => cases xs with
      | nil => cases hl
      | cons => rfl
  rw [e]
  exact k
theorem s_eqIE (B : Own H0 H T L) [P1 : Pull L a (.ob a (.lst (ns.map V.int))) L'] [P2 : Pull L l (.ob l (.lst [])) L1] (k : Q (.bl ns.isEmpty) H) : rEqD K (.ref a) (.ref l) H Q :=
  s_eqE B (dpAll_ints ns) (shaped_I ns) (by rw [List.length_map, List.length_map]) (by
    have e : (ns.map V.int).isEmpty = ns.isEmpty := by cases ns <;> rfl
    rw [e]; exact k)
end
end My
namespace My
open PySem PySem.Spec PyProof.Rows L2 LamX
/-! l[a:c] = ys where c may lie behind the end -/
theorem clip_bounds {a c n : Nat} (h1 : a ≤ c) (h2 : a ≤ n) (h3 : n ≤ c) : sliceBounds (some (a : Int)) (some (c : Int)) none n = ((a : Int), (n : Int), 1) := by
  have n1 : ¬ (a : Int) < 0 := by omega
  have n2 : ¬ (c : Int) < 0 := by omega
  simp only [sliceBounds, Option.getD_none, n1, n2, if_false, show (1 : Int) > 0 from by decide, if_true]
  congr 1
  · omega
  · congr 1; omega
section
variable {pg : Program} {wd : World} {Ar : Around} {Ex : Value → Shared → Prop} {st : Shared}
set_option maxHeartbeats 0 in
theorem set_clip {l b sl : Addr} {old nw : Array Value} {u1 u2 : Nat} {lo hi : Value} {a c : Nat} {Qq : Unit → Shared → Prop}
    (eo : st.heap.get? l = some { cls := .type "list", data := .seq old u1 }) (eb : st.heap.get? b = some { cls := .type "list", data := .seq nw u2 }) (apart : l ≠ b)
    (hsl : st.heap.IsSliceOf sl lo hi .none) (p1 : IsPart lo (some (a : Int))) (p2 : IsPart hi (some (c : Int))) (h1 : a ≤ c) (h2 : a ≤ old.size) (h3 : old.size ≤ c)
    (room : old.size + nw.size ≤ sizeLine) (go : Qq () { st with heap := st.heap.update l (Obj.mapSeq fun zs => zs.extract 0 a ++ nw ++ zs.extract old.size zs.size) }) :
    wpAny (model pg wd) Ar (setItem (.ref l) (.ref sl) (.ref b)) Qq Ex st := by
  have lo' : st.heap.IsList l old := PySem.IsL.isList eo
  have bo' : st.heap.IsList b nw := PySem.IsL.isList eb
  obtain ⟨so, so1, so2, so3⟩ := id hsl
  have tsl : st.TypeIs (.ref sl) "slice" := ⟨so, so1, so2⟩
  have noStep : ¬ ((rawPart none == rawInt 0) = true) := Bool.false_ne_true
  have other : Builtin.List.listSameRef (.ref l) (.ref b) = false := beq_eq_false_iff_ne.mpr apart
  have mx : (max (a : Int) (old.size : Int)).toNat = old.size := by omega
  have fits : ((fun zs : Array Value => zs.extract 0 a ++ nw ++ zs.extract old.size zs.size) old).size ≤ sizeLine + 1 := by
    simp only [Array.size_append, Array.size_extract]; omega
  unfold setItem
  refine wpAny_holding ?m0
  refine wpAny_bind (wpAny_sequenceKey lo'.typeIs (by decide) ?_)
  refine wpAny_bind (wpAny_callSpecial?_slot (name := Str.ofString "__setitem__") lo'.typeIs slot_list_setitem (wpAny_call_entry slot_list_setitem lo'.typeIs entry_list_setitem ?m1 (args_list_setitem _ _ _)))
  show wpAny (model pg wd) _ (Builtin.List.listSubscript? (.ref sl) >>= _) _ _ st
  refine wpAny_bind ?m2
  unfold Builtin.List.listSubscript?
  refine wpAny_bind (wpAny_specialOf tsl slice_no_index ?m3)
  simp only [Option.isNone_none, if_true]
  refine wpAny_pure ?m4
  show wpAny (model pg wd) _ (typeOf (.ref sl) >>= _) _ _ st
  refine wpAny_bind (wpAny_typeOf tsl ?m5)
  rw [if_neg (by decide)]
  rw [listSliceParts_eq]
  refine wpAny_bind (wpAny_bind (wpAny_field so1 so3 (x := .none) rfl (wpAny_bind (wpAny_listPart .none ?m6))))
  rw [if_neg noStep]
  refine wpAny_bind (wpAny_field so1 so3 (x := lo) rfl (wpAny_bind (wpAny_listPart p1 ?m7)))
  refine wpAny_bind (wpAny_field so1 so3 (x := hi) rfl (wpAny_bind (wpAny_listPart p2 (wpAny_pure ?m8))))
  simp only [other, Bool.false_eq_true, if_false]
  refine wpAny_bind (m := Builtin.List.listAllItems (.ref b) "must assign iterable to extended slice") ?m9
  unfold Builtin.List.listAllItems
  refine wpAny_bind (wpAny_typeOf bo'.typeIs ?m10)
  rw [if_pos (by decide)]
  unfold Builtin.List.listItems
  refine wpAny_bind (wpAny_seqItems eb rfl (wpAny_pure ?m11))
  refine wpAny_bind (wpAny_bind (wpAny_seqItems eo rfl (wpAny_pure ?m12)))
  have ix : sliceIndices (rawPart (some (a : Int))) (rawPart (some (c : Int))) (rawPart none) old.size = pure ((a : Int), (old.size : Int), 1) :=
    (sliceIndices_raw (some (a : Int)) (some (c : Int)) none old.size (by simp)).trans (congrArg (fun z : Int × Int × Int => (pure z : Sem (Int × Int × Int))) (clip_bounds h1 h2 h3))
  refine wpAny_bind (wpAny_of_eq ix ?m13)
  show wpAny (model pg wd) _ (if ((1 : Int) == 1) = true then _ else _) _ _ st
  rw [if_pos (by decide)]
  refine wpAny_bind (wpAny_rule ?m14)
  rw [if_neg (by rw [notLongL room]; exact Bool.false_ne_true)]
  show wpAny (model pg wd) _ (updateSeq l (fun zs => zs.extract 0 ((a : Int)).toNat ++ nw ++ zs.extract (max (a : Int) (old.size : Int)).toNat zs.size) >>= _) _ _ st
  rw [mx, Int.toNat_natCast]
  refine wpAny_bind (wpAny_updateSeq (hz := Nat.le_trans (Nat.le_add_right _ _) room) (_hz' := fits) eo rfl ?m15)
  refine wpAny_bind (wpAny_letGo ?m16)
  exact wpAny_pure ⟨.none, rfl, wpAny_pure go⟩
end
section
variable {X : Cx}
/-- l[a:c] = ys of another list, c anywhere behind a -/
theorem set_any {pins : List (Addr × Obj)} {st : Shared} {v : L2.St} {H : Hp} {l b sl : Addr} {xs ys : List V} {a c : Int} {lo hi : Value} {Qq : Unit → Shared → Prop} (I : Inv X pins v H st)
    (hH : H l = some (.lst xs)) (hB : H b = some (.lst ys)) (apart : l ≠ b) (hsl : st.heap.IsSliceOf sl lo hi .none) (r1 : RelV (.int a) lo) (r2 : RelV (.int c) hi) (h0 : 0 ≤ a) (h1 : a ≤ c) (h2 : a ≤ xs.length)
    (room : xs.length + ys.length ≤ sizeLine) (go : ∀ s', Inv X pins v (upd H l (.lst (xs.take a.toNat ++ ys ++ xs.drop c.toNat))) s' → Qq () s') :
    wpAny (model X.prog X.w) X.A (setItem (.ref l) (.ref sl) (.ref b)) Qq X.xe st := by
  rcases Int.lt_or_le (xs.length : Int) c with h3 | h3
  · obtain ⟨t1, rfl⟩ := r1
    obtain ⟨t2, rfl⟩ := r2
    obtain ⟨u1, o1, k1, w1, g1, eo⟩ := I.lstM hH
    obtain ⟨u2, o2, k2, w2, g2, eb⟩ := I.lstM hB
    obtain ⟨a', rfl⟩ := Int.eq_ofNat_of_zero_le h0
    obtain ⟨c', rfl⟩ := Int.eq_ofNat_of_zero_le (Int.le_trans h0 h1)
    simp only [Int.toNat_natCast] at go
    have hd0 : xs.drop c' = xs.drop xs.length := by rw [List.drop_of_length_le (by omega), List.drop_length]
    rw [hd0] at go
    have hlen : o1.length = xs.length := by omega
    refine set_clip (a := a') (c := c') eo eb apart hsl (.int _ _) (.int _ _) (by omega) (by rw [List.size_toArray]; omega) (by rw [List.size_toArray]; omega) (by rw [List.size_toArray, List.size_toArray]; omega) (go _ ?_)
    refine I.lset (its' := o1.take a' ++ o2 ++ o1.drop o1.length) (t' := st.toks) hH eo ?_ (Vals.append (Vals.append (w1.take _) w2) (by rw [← hlen]; exact w1.drop _)) ?_
    · exact splice_eq o1 o2 a' o1.length
    · rw [List.length_append, List.length_append, List.length_take, List.length_drop]
      omega
  · exact set_slice I hH hB apart hsl r1 r2 h0 h1 h3 room go
def gSlcA (to : TE) (tl th : TO) : TG := fun v sg H Q => to sg H fun o H1 => tl sg H1 fun lo H2 => th sg H2 fun hi H3 =>
  ∃ (l b : Addr) (xs ys : List V) (a c : Int), o = .ref l ∧ v = .ref b ∧ lo = some a ∧ hi = some c ∧ H3 l = some (.lst xs) ∧ H3 b = some (.lst ys) ∧ l ≠ b ∧
    0 ≤ a ∧ a ≤ c ∧ a ≤ xs.length ∧ xs.length + ys.length ≤ sizeLine ∧ Q sg (upd H3 l (.lst (xs.take a.toNat ++ ys ++ xs.drop c.toNat)))
theorem pg_slcA {o : Expr} {lo hi : Option Expr} {p2 pos : Pos} {to : TE} {tl th : TO} (ho : PE X o to) (hl : PO X lo tl) (hh : PO X hi th)
    (ha : ∀ v, assign (.Subscript o (.Slice lo hi none p2) pos) X.env v = (do
      let ov ← holding [v] (eval o X.env)
      let iv ← holding [v, ov] (eval (.Slice lo hi none p2) X.env)
      standAt pos
      holding [v, ov, iv] (setItem ov iv v)
      release [iv, v, ov] []) := by intro _; rfl) : PG X (.Subscript o (.Slice lo hi none p2) pos) (gSlcA to tl th) := by
  refine ⟨fun pins s sg H v u Q I r want => ?_⟩
  rw [ha]
  refine wpAny_bind (wpAny_holding (thn (ho.run pins s sg H _ I want) ?_))
  rintro ov s1 ⟨x, H1, I1, r1, q1⟩
  refine wpAny_bind (wpAny_holding (wpAny_Slice (thn (hl.run pins s1 sg H1 _ I1 q1) ?_)))
  rintro vl s2 ⟨la, H2, I2, pl, q2⟩
  refine thn (hh.run pins s2 sg H2 _ I2 q2) ?_
  rintro vu s3 ⟨ua, H3, I3, pu, q3⟩
  rw [evalPart_none]
  refine wpAny_pure ?_
  have I4 : Inv X pins sg H3 { s3 with heap := s3.heap.push { cls := .type "slice", data := .fields #[vl, vu, .none] } } :=
    I3.kept (t' := s3.toks) (fun b ob q => Heap.get?_push_of_some _ q)
  obtain ⟨l, b, xs, ys, a, c, rfl, rfl, rfl, rfl, hx, hy, ne, h0, h1, h2, hz, q⟩ := q3
  have e1 : ov = Value.ref l := r1
  have e2 : u = Value.ref b := r
  subst e1 e2
  have ra : RelV (.int a) vl := by cases pl; exact ⟨_, rfl⟩
  have rc : RelV (.int c) vu := by cases pu; exact ⟨_, rfl⟩
  refine wpAny_bind (wpAny_standAt (wpAny_bind (wpAny_holding ?_)))
  refine set_any I4 hx hy ne (Heap.IsSliceOf.new ..) ra rc h0 h1 h2 hz (fun s5 I5 => ?_)
  exact wpAny_release ⟨sg, _, I5, q⟩
end
section
variable {H0 H : Hp} {T : List (Addr × Str)} {L L' : List Cell} {a b : Addr} {xs ys : List V} {σ : L2.St} {to : TE} {tl th : TO} {Qs : L2.St → Hp → Prop} {n c : Nat} {v : V}
def SlcAt (σ : L2.St) (Qs : L2.St → Hp → Prop) (v o : V) (lo hi : Option Int) (H3 : Hp) : Prop :=
  ∃ (l b : Addr) (xs ys : List V) (a c : Int), o = .ref l ∧ v = .ref b ∧ lo = some a ∧ hi = some c ∧ H3 l = some (.lst xs) ∧ H3 b = some (.lst ys) ∧ l ≠ b ∧
    0 ≤ a ∧ a ≤ c ∧ a ≤ xs.length ∧ xs.length + ys.length ≤ sizeLine ∧ Qs σ (upd H3 l (.lst (xs.take a.toNat ++ ys ++ xs.drop c.toNat)))
theorem s_gslc (k : to σ H fun o H1 => tl σ H1 fun lo H2 => th σ H2 fun hi H3 => SlcAt σ Qs v o lo hi H3) : gSlcA to tl th v σ H Qs := k
theorem s_slc (B : Own H0 H T L) [P : Pull L a (.ob a (.lst xs)) L'] (hb : H b = some (.lst ys)) (ne : a ≠ b) (h1 : n ≤ c) (h2 : n ≤ xs.length) (hz : xs.length + ys.length ≤ sizeLine)
    (k : ∀ H', Own H0 H' T (.ob a (.lst (xs.take n ++ ys ++ xs.drop c)) :: L') → Qs σ H') : SlcAt σ Qs (.ref b) (.ref a) (some (n : Int)) (some (c : Int)) H :=
  ⟨a, b, xs, ys, _, _, rfl, rfl, rfl, rfl, B.get a, hb, ne, by omega, by omega, by omega, hz, k _ ((B.pull a).wr trivial)⟩
end
end My
namespace My
open PySem PySem.Spec PyProof.Rows L2 LamX
theorem cut_mid {xs : List V} {a c : Nat} (h : a ≤ c) : cutV xs (some (a : Int)) (some (c : Int)) = (xs.drop a).take (c - a) := by
  unfold cutV
  rw [HT.sIx_nat, HT.sIx_nat]
  rcases Nat.le_total a xs.length with h1 | h1
  · rw [Nat.min_eq_left h1]
    rcases Nat.le_total c xs.length with h2 | h2
    · rw [Nat.min_eq_left h2]
    · rw [Nat.min_eq_right h2, List.take_of_length_le (by rw [List.length_drop]; omega), List.take_of_length_le (by rw [List.length_drop]; omega)]
  · rw [Nat.min_eq_right h1, List.drop_length, List.drop_of_length_le h1]
    simp
section
variable {K : PySem.W.Frag} {H0 H H' : Hp} {T : List (Addr × Str)} {L L' : List Cell} {a : Addr} {xs : List V} {Q : VK} {σ : L2.St} {vs : List Nat} {tt : TT} {te : TE} {kx n : Nat}
/-- a comprehension over a range with steps -/
theorem s_lcC {lo c : Int} (Pv : Nat → List V → List Cell → Prop) (B : Own H0 H T L) (start : Pv 0 [] L)
    (wp : ∀ x : V, wipe ((wipe σ vs).set kx (some x)) vs = wipe σ vs)
    (turn : ∀ D i acc L H, i < n → Pv i acc L → Own H0 H T (.ob D (.lst acc) :: L) → tt ((wipe σ vs).set kx (some (.int (lo + (i : Int) * c)))) H fun b H3 =>
      if b = true then te ((wipe σ vs).set kx (some (.int (lo + (i : Int) * c)))) H3 fun y H4 => ∃ acc, H4 D = some (.lst acc) ∧ acc.length < sizeLine ∧ NoEl H0 T D (Pv (i + 1)) (upd H4 D (.lst (acc ++ [y]))) else NoEl H0 T D (Pv (i + 1)) H3)
    (last : ∀ D acc L H, Pv n acc L → Own H0 H T (.ob D (.lst acc) :: L) → Q (.ref D) H) : LcG (Itc lo c n) (gName kx) tt te vs σ Q H := fun D nD => by
  refine ⟨fun i m H => m = n - i ∧ i ≤ n ∧ NoEl H0 T D (Pv i) H, ⟨n, rfl, Nat.zero_le _, [], L, B.new nD trivial, start⟩, ?_⟩
  rintro i m H ⟨em, le, acc, M, C, h⟩
  rcases Nat.lt_or_ge i n with lt | ge
  · refine Or.inr ⟨lt, NoEl H0 T D (Pv (i + 1)), fun H' p => ⟨n - (i + 1), by omega, rfl, lt, p⟩, ?_⟩
    rintro x H' ⟨rfl, rfl⟩
    exact ⟨wp _, turn D i acc M _ lt h C⟩
  · have e : i = n := by omega
    subst e
    exact Or.inl ⟨Nat.le_refl _, last D acc M H h C⟩
end
end My
namespace My
open PySem PySem.Spec PyProof.Rows L2 LamX
section
variable {K : PySem.W.Frag} {H0 H H' : Hp} {T : List (Addr × Str)} {L L' : List Cell} {a b : Addr} {o o2 : HO} {ns : List Int} {Q : VK}
theorem Own.ne2 (B : Own H0 H T (.ob a o :: L)) (b : Addr) [P : Pull L b (.ob b o2) L'] : a ≠ b := fun z => by
  have h := B.off (x := a) (List.mem_singleton.mpr rfl)
  have h2 : b ∈ foots L := List.mem_flatMap.mpr ⟨.ob b o2, P.p.mem_iff.mpr (List.mem_cons_self ..), List.mem_singleton.mpr rfl⟩
  exact h (z ▸ h2)
theorem s_sortH (B : Own H0 H T L) (h : H a = some (.lst (ns.map V.int))) (k : ∀ (ns' : List Int) p H', ns'.Perm ns → ns'.Pairwise (· ≤ ·) → Own H0 H' T (.ob p (.lst (ns'.map V.int)) :: L) → Q (.ref p) H') : rSortA K [.ref a] H Q :=
  ⟨a, ns, rfl, SqL.of h, fun ns' p pe so n => k ns' p _ pe so (B.new n trivial)⟩
end
theorem chunk_flat {s : Nat} (xs : List Int) : ∀ N : Nat, ((List.range N).map fun j => (xs.drop (j * s)).take s).flatten = xs.take (N * s)
  | 0 => by simp
  | N + 1 => by
    rw [List.range_succ, List.map_append, List.flatten_append, chunk_flat xs N, Nat.add_mul, Nat.one_mul, List.take_add]
    simp
theorem chunks_all {s m : Nat} (hs : 1 ≤ s) (xs : List Int) (h : xs.length = m) : ((List.range ((m + s - 1) / s)).map fun j => (xs.drop (j * s)).take s).flatten = xs := by
  rw [chunk_flat]
  refine List.take_of_length_le ?_
  rw [h]
  have h1 := Nat.div_add_mod (m + s - 1) s
  have h2 := Nat.mod_lt (m + s - 1) (show s > 0 by omega)
  rw [Nat.mul_comm] at h1
  omega
end My
namespace My
theorem flat_tk {fam : List (List Int)} (i : Nat) : (fam.take i).flatten.length ≤ fam.flatten.length := by
  have e := congrArg List.length (congrArg List.flatten (List.take_append_drop i fam))
  rw [List.flatten_append, List.length_append] at e
  omega
end My
namespace My
open PySem PySem.Spec PyProof.Rows L2 LamX
/-! dicts: cells `.ob a (.dK kvs)` -/
def DcG (J : It) (g : TG) (tt : TT) (tk tv : TE) (vs : List Nat) (σ : L2.St) (Q : VK) (H1 : Hp) : Prop := ∀ D, H1 D = none → ∃ W : Nat → Nat → Hp → Prop, (∃ m, W 0 m (upd H1 D (.dK []))) ∧ ∀ i m H, W i m H →
  (J.stop i H ∧ Q (.ref D) H) ∨ (J.go i H ∧ ∃ Nx : Hp → Prop, (∀ H', Nx H' → ∃ m', m' < m ∧ W (i + 1) m' H') ∧ ∀ x H', J.yld i H x H' → g x (wipe σ vs) H' fun σ2 H2 => wipe σ2 vs = wipe σ vs ∧ tt σ2 H2 fun b H3 =>
    if b = true then tk σ2 H3 fun y H4 => tv σ2 H4 fun z H5 => ∃ kvs k, y = kV k ∧ H5 D = some (.dK kvs) ∧ kvs.length < sizeLine ∧ Nx (upd H5 D (.dK (putK kvs k z))) else Nx H3)
section
variable {K : PySem.W.Frag} {H0 H H' : Hp} {T : List (Addr × Str)} {L L' : List Cell} {a : Addr} {xs : List V} {Q : VK} {σ : L2.St} {k1 k2 kx : Nat} {vs : List Nat} {tt : TT} {tk tv : TE} {wi : TI} {g : TG} {kvs : List (Key × V)}
theorem s_dc (k : wi σ H fun J H1 => DcG J g tt tk tv vs σ Q H1) : tDc wi g tt tk tv vs σ H Q := k
def NoDl (H0 : Hp) (T : List (Addr × Str)) (D : Addr) (Pv : List (Key × V) → List Cell → Prop) : Hp → Prop := fun H => ∃ acc L, Own H0 H T (.ob D (.dK acc) :: L) ∧ Pv acc L
theorem NoDl.mk {acc : List (Key × V)} {Pv : List (Key × V) → List Cell → Prop} {M : List Cell} (B : Own H0 H T L) [P : Pull L a (.ob a (.dK acc)) L'] [A : Arr L' M] (h : Pv acc M) : NoDl H0 T a Pv H := ⟨acc, M, (B.pull a).arrT, h⟩
/-- the end of a turn: one more entry -/
theorem s_dl {acc : List (Key × V)} {k : Key} {z : V} {Pv : List (Key × V) → List Cell → Prop} {M : List Cell} (B : Own H0 H T L) [P : Pull L a (.ob a (.dK acc)) L'] [A : Arr L' M] (hl : acc.length < sizeLine) (h : Pv (putK acc k z) M) :
    ∃ kvs k', kV k = kV k' ∧ H a = some (.dK kvs) ∧ kvs.length < sizeLine ∧ NoDl H0 T a Pv (upd H a (.dK (putK kvs k' z))) :=
  ⟨acc, k, rfl, B.get a, hl, putK acc k z, M, ((B.pull a).arrT (M := M)).wr trivial, h⟩
/-- {k: v for i, x in enumerate(xs)} -/
theorem s_dcE (Pv : Nat → List (Key × V) → List Cell → Prop) (xs : List V) (B : Own H0 H T L) (start : Pv 0 [] L) (stays : ∀ i acc L H, Pv i acc L → Own H0 H T L → SqL K H a xs)
    (wp : ∀ x y : V, wipe (((wipe σ vs).set k1 (some x)).set k2 (some y)) vs = wipe σ vs)
    (turn : ∀ D i x acc L H, xs[i]? = some x → Pv i acc L → Own H0 H T (.ob D (.dK acc) :: L) → tt (((wipe σ vs).set k1 (some (.int (i : Int)))).set k2 (some x)) H fun b H3 =>
      if b = true then tk (((wipe σ vs).set k1 (some (.int (i : Int)))).set k2 (some x)) H3 fun y H4 => tv (((wipe σ vs).set k1 (some (.int (i : Int)))).set k2 (some x)) H4 fun z H5 => ∃ kvs k, y = kV k ∧ H5 D = some (.dK kvs) ∧ kvs.length < sizeLine ∧ NoDl H0 T D (Pv (i + 1)) (upd H5 D (.dK (putK kvs k z))) else NoDl H0 T D (Pv (i + 1)) H3)
    (last : ∀ D acc L H, Pv xs.length acc L → Own H0 H T (.ob D (.dK acc) :: L) → Q (.ref D) H) : DcG (Ite K a) (gTup K 2 (gCons (gName k1) (gCons (gName k2) gNil))) tt tk tv vs σ Q H := fun D nD => by
  refine ⟨fun i m H => m = xs.length - i ∧ i ≤ xs.length ∧ NoDl H0 T D (Pv i) H, ⟨xs.length, rfl, Nat.zero_le _, [], L, B.new nD trivial, start⟩, ?_⟩
  rintro i m H ⟨em, le, acc, M, B, h⟩
  have sq := stays i acc M H h B.tail
  rcases Nat.lt_or_ge i xs.length with lt | ge
  · have at1 : xs[i]? = some xs[i] := List.getElem?_eq_getElem lt
    refine Or.inr ⟨⟨xs, xs[i], sq, at1⟩, NoDl H0 T D (Pv (i + 1)), ?_, ?_⟩
    · intro H' p'
      exact ⟨xs.length - (i + 1), by omega, rfl, lt, p'⟩
    · rintro x H' ⟨tp, y, e1, nT, e2, f⟩
      have ey := f xs sq
      subst e1 e2
      exact ⟨tp, _, rfl, SqT.of upd_same, rfl, _, _, rfl, _, _, rfl, rfl, wp _ _, turn D i y acc M _ ey h (B.new (o := .tup [.int (i : Nat), y]) nT trivial).tail⟩
  · have e : i = xs.length := by omega
    subst e
    exact Or.inl ⟨⟨xs, sq, Nat.le_refl _⟩, last D acc M H h B⟩
/-- {k: v for x in xs} -/
theorem s_dcL (Pv : Nat → List (Key × V) → List Cell → Prop) (xs : List V) (B : Own H0 H T L) (start : Pv 0 [] L) (stays : ∀ i acc L H, Pv i acc L → Own H0 H T L → SqL K H a xs)
    (wp : ∀ x : V, wipe ((wipe σ vs).set kx (some x)) vs = wipe σ vs)
    (turn : ∀ D i x acc L H, xs[i]? = some x → Pv i acc L → Own H0 H T (.ob D (.dK acc) :: L) → tt ((wipe σ vs).set kx (some x)) H fun b H3 =>
      if b = true then tk ((wipe σ vs).set kx (some x)) H3 fun y H4 => tv ((wipe σ vs).set kx (some x)) H4 fun z H5 => ∃ kvs k, y = kV k ∧ H5 D = some (.dK kvs) ∧ kvs.length < sizeLine ∧ NoDl H0 T D (Pv (i + 1)) (upd H5 D (.dK (putK kvs k z))) else NoDl H0 T D (Pv (i + 1)) H3)
    (last : ∀ D acc L H, Pv xs.length acc L → Own H0 H T (.ob D (.dK acc) :: L) → Q (.ref D) H) : DcG (Itl K a) (gName kx) tt tk tv vs σ Q H := fun D nD => by
  refine ⟨fun i m H => m = xs.length - i ∧ i ≤ xs.length ∧ NoDl H0 T D (Pv i) H, ⟨xs.length, rfl, Nat.zero_le _, [], L, B.new nD trivial, start⟩, ?_⟩
  rintro i m H ⟨em, le, acc, M, B, h⟩
  have sq := stays i acc M H h B.tail
  rcases Nat.lt_or_ge i xs.length with lt | ge
  · have at1 : xs[i]? = some xs[i] := List.getElem?_eq_getElem lt
    refine Or.inr ⟨⟨xs, xs[i], sq, at1⟩, NoDl H0 T D (Pv (i + 1)), ?_, ?_⟩
    · intro H' p'
      exact ⟨xs.length - (i + 1), by omega, rfl, lt, p'⟩
    · rintro x H' ⟨e1, f⟩
      have ey := f xs sq
      subst e1
      exact ⟨wp _, turn D i x acc M _ ey h B⟩
  · have e : i = xs.length := by omega
    subst e
    exact Or.inl ⟨⟨xs, sq, Nat.le_refl _⟩, last D acc M H h B⟩
/-- d[x] -/
def GetAt (x y : V) (H : Hp) (Q : VK) : Prop := ∃ a v, x = .ref a ∧ DGet H a y (some v) ∧ Q v H
theorem s_dg {td ty : TE} (k : td σ H fun x H1 => ty σ H1 fun y H2 => GetAt x y H2 Q) : tDGet td ty σ H Q := k
theorem s_dget {x : Int} {v : V} (h : H a = some (.dK kvs)) (e : valV kvs (.inl x) = some v) (k : Q v H) : GetAt (.ref a) (.int x) H Q := ⟨a, v, rfl, by rw [← e]; exact DGet.k (k := .inl x) h, k⟩
/-- x in d -/
def InAt (y x : V) (H : Hp) (Q : VK) : Prop := ∃ a o, x = .ref a ∧ DGet H a y o ∧ Q (.bl o.isSome) H
def NinAt (y x : V) (H : Hp) (Q : VK) : Prop := ∃ a o, x = .ref a ∧ DGet H a y o ∧ Q (.bl (!o.isSome)) H
theorem s_di {td ty : TE} (k : ty σ H fun y H1 => td σ H1 fun x H2 => InAt y x H2 Q) : tDIn ty td σ H Q := k
theorem s_dni {td ty : TE} (k : ty σ H fun y H1 => td σ H1 fun x H2 => NinAt y x H2 Q) : tDNotIn ty td σ H Q := k
theorem s_din {x : Int} (h : H a = some (.dK kvs)) (k : Q (.bl (valV kvs (.inl x)).isSome) H) : InAt (.int x) (.ref a) H Q := ⟨a, _, rfl, DGet.k (k := .inl x) h, k⟩
theorem s_dnin {x : Int} (h : H a = some (.dK kvs)) (k : Q (.bl (!(valV kvs (.inl x)).isSome)) H) : NinAt (.int x) (.ref a) H Q := ⟨a, _, rfl, DGet.k (k := .inl x) h, k⟩
theorem hu1_of {k : Nat} {A : Around} (hr : Room k A) : A.units + 1 < cLine := by have := hr.un; omega
/-- the dict number => place -/
def atMap (ns : List Int) : List (Key × V) := ns.zipIdx.map fun p => ((.inl p.1 : Key), V.int (p.2 : Int))
theorem atMap_snoc {ns : List Int} {i : Nat} {x : Int} (e : ns[i]? = some x) : atMap (ns.take (i + 1)) = atMap (ns.take i) ++ [((.inl x : Key), V.int (i : Int))] := by
  unfold atMap
  have hl := (List.getElem?_eq_some_iff.mp e).1
  rw [List.take_add_one, e, Option.toList_some, List.zipIdx_append, List.map_append, List.length_take, Nat.zero_add, Nat.min_eq_left (Nat.le_of_lt hl)]
  rfl
theorem atMap_none {ns : List Int} {x : Int} (h : x ∉ ns) : valV (atMap ns) (.inl x) = none := by
  unfold atMap valV
  rw [Option.map_eq_none_iff, List.find?_eq_none]
  intro p hp
  obtain ⟨q, hq, rfl⟩ := List.mem_map.mp hp
  intro e
  have e1 : q.1 = x := by simpa using e
  exact h (e1 ▸ List.fst_mem_of_mem_zipIdx hq)
theorem atMap_get (ns : List Int) {x : Int} (h : x ∈ ns) : valV (atMap ns) (.inl x) = some (.int ((ns.idxOf x : Nat) : Int)) := by
  have go : ∀ (ns : List Int) (s : Nat), x ∈ ns → valV ((ns.zipIdx s).map fun p => ((.inl p.1 : Key), V.int (p.2 : Int))) (.inl x) = some (.int ((s + ns.idxOf x : Nat) : Int)) := by
    intro ns
    induction ns with
    | nil => intro s h; cases h
    | cons y l ih =>
      intro s h
      rw [List.zipIdx_cons, List.map_cons]
      by_cases e : y = x
      · subst e
        rw [valV_pos rfl, List.idxOf_cons_self]
        rfl
      · rw [valV_neg (fun z => e (by simpa using z)), ih (s + 1) (by rcases List.mem_cons.mp h with r | r; exact absurd r.symm e; exact r), List.idxOf_cons, show (y == x) = false from beq_false_of_ne e, cond_false]
        congr 2
        omega
  have := go ns 0 h
  rwa [Nat.zero_add] at this
end
/-- repr of a truth value, of None, or of what is laid out -/
def bText (b : Bool) : Str := if b then "True" else "False"
def rRepX (K : PySem.W.Frag) : List V → Hp → VK → Prop := fun vs H Q => (∃ b, vs = [.bl b] ∧ Q (.str (bText b)) H) ∨ (vs = [.non] ∧ Q (.str "None") H) ∨ rRep K vs H Q
theorem cr_repX {X : Cx} (hg : X.A.guards = some []) (hu : X.A.units + 100 < cLine) : CallR X (.builtin "repr") (rRepX X.K) := by
  intro pins s sg H xs us Q I rv h
  rcases h with ⟨b, rfl, q⟩ | ⟨rfl, q⟩ | h
  · obtain ⟨u, rfl, ru⟩ := rv.one
    have ru' : u = Value.bool b := ru
    subst ru'
    exact PySem.P.repr_of_bool ⟨.str (bText b), H, I.tok _, ⟨_, by unfold bText; cases b <;> rfl⟩, q⟩
  · obtain ⟨u, rfl, ru⟩ := rv.one
    have ru' : u = Value.none := ru
    subst ru'
    exact PySem.P.repr_of_none ⟨.str "None", H, I.tok _, ⟨_, rfl⟩, q⟩
  · exact cr_rep hg hu pins s sg H xs us Q I rv h
section
variable {K : PySem.W.Frag} {H : Hp} {Q : VK} {a a1 a2 : Addr}
theorem s_repBl {b : Bool} (k : Q (.str (bText b)) H) : rRepX K [.bl b] H Q := .inl ⟨b, rfl, k⟩
theorem s_repNo (k : Q (.str "None") H) : rRepX K [.non] H Q := .inr (.inl ⟨rfl, k⟩)
theorem s_repRf (h : rRep K [.ref a] H Q) : rRepX K [.ref a] H Q := .inr (.inr h)
/-- two lists of ints in a list, one object or two -/
theorem s_repI2 {n1 n2 : List Int} (h : H a = some (.lst [.ref a1, .ref a2])) (h1 : H a1 = some (.lst (n1.map V.int))) (h2 : H a2 = some (.lst (n2.map V.int)))
    (s1 : Sh n1 ∧ n1.length ≤ 300) (s2 : Sh n2 ∧ n2.length ≤ 300) (k : Q (.str (dR [n1, n2]).shown) H) : rRep K [.ref a] H Q := by
  obtain ⟨q1, q2, q3, q4⟩ := askR (bs := [n1, n2]) (fun b hb => by
    simp only [List.mem_cons, List.mem_nil_iff, or_false] at hb
    rcases hb with rfl | rfl
    · exact s1
    · exact s2) (show 2 ≤ 300 by decide)
  exact ⟨a, dR [n1, n2], rfl, .lst (SqL.of h) (.cons (dpI (SqL.of h1)) (.cons (dpI (SqL.of h2)) .nil)), q1, q2, q3, q4, k⟩
/-- a tuple of two ints -/
theorem s_repT2 {x y : Int} (h : H a = some (.tup [.int x, .int y])) (hs : Sh [x, y]) (k : Q (.str (PyData.tuple [.int x, .int y]).shown) H) : rRep K [.ref a] H Q := by
  obtain ⟨h1, h2, h3, h4⟩ := askI hs (show 2 ≤ 4000 by decide)
  unfold dI at h1 h2 h3 h4
  refine ⟨a, .tuple [.int x, .int y], rfl, .tup (SqT.of h) (.cons (.int x) (.cons (.int y) .nil)), ?_, ?_, ?_, ?_, k⟩
  · simpa [PyData.showable] using h1
  · simpa [PyData.hasDict] using h2
  · have z1 := tupleText_len_le (PyData.shownAll ([x, y].map PyData.int))
    have z2 := sumI [x, y] hs
    rw [PyData.shownAll_length, List.length_map] at z1
    simp only [List.length_cons, List.length_nil] at z1 z2
    simp only [PyData.shown]
    unfold sizeLine
    simp only [List.map_cons, List.map_nil] at z1 z2
    omega
  · simpa [PyData.depth] using h4
end
end My
namespace My
open PySem PySem.Spec PyProof.Rows L2 LamX
/-! for i, (x, y) in enumerate(zip(xs, ys)): the zip keeps what it has handed out -/
abbrev IsZipK (h : Heap) (z TI TO : Addr) (f0 : Value) (b : Bool) : Prop :=
  h.get? z = some { cls := .type "zip", dict := none, data := .fields #[f0, .bool b, .bool false, .ref TI, .ref TO], slots := #[] }
section
variable {prog : Program} {w : World} {A : Around} {E : Value → Shared → Prop} {s : Shared}
theorem wpAny_alive {M : Model} {a : Addr} {Q : Option Obj → Shared → Prop} (h : Q (s.heap.get? a) s) : wpAny M A (loadIfAlive a) Q E s := fun _ _ _ => h
/-- it is not free: what it handed out is alive -/
theorem owned_not {z TI TO T0 : Addr} {b : Bool} {o : Obj} {Q : Bool → Shared → Prop} (hz : IsZipK s.heap z TI TO (rawInt T0) b) (ho : s.heap.get? T0 = some o)
    (h : ∀ h', IsZipK h' z TI TO (rawInt T0) true → Heap.SameBut z s.heap h' → Q false { s with heap := h' }) : wpAny (model prog w) A (Builtin.SmallTypes.ownedTupleIsFree (.ref z)) Q E s := by
  unfold Builtin.SmallTypes.ownedTupleIsFree
  refine wpAny_bind (wpAny_field hz rfl (x := rawInt T0) rfl ?_)
  show wpAny _ _ (loadIfAlive ((T0 : Int)).toNat >>= _) _ _ s
  refine wpAny_bind (wpAny_alive ?_)
  rw [Int.toNat_natCast, ho]
  simp only [Option.isNone_some, Bool.false_eq_true, if_false]
  refine wpAny_bind (wpAny_field hz rfl (x := .bool b) rfl ?_)
  cases b with
  | true => exact wpAny_pure (h _ hz ⟨rfl, fun _ _ => rfl⟩)
  | false =>
    show wpAny _ _ (setField (.ref z) 1 (.bool true) >>= _) _ _ s
    exact wpAny_bind (wpAny_setField_rec hz (by simp) fun h' hz' hs' => wpAny_pure (h h' hz' hs'))
theorem owned_dead {z TI TO T0 : Addr} {b : Bool} {Q : Bool → Shared → Prop} (hz : IsZipK s.heap z TI TO (rawInt T0) b) (ho : s.heap.get? T0 = none)
    (h : Q true s) : wpAny (model prog w) A (Builtin.SmallTypes.ownedTupleIsFree (.ref z)) Q E s := by
  unfold Builtin.SmallTypes.ownedTupleIsFree
  refine wpAny_bind (wpAny_field hz rfl (x := rawInt T0) rfl ?_)
  show wpAny _ _ (loadIfAlive ((T0 : Int)).toNat >>= _) _ _ s
  refine wpAny_bind (wpAny_alive ?_)
  rw [Int.toNat_natCast, ho]
  simp only [Option.isNone_none, if_true]
  exact wpAny_pure h
theorem zip_next_kept {z TI TO i1 i2 l1 l2 T0 : Addr} {k1 k2 : Nat} {xs ys : Array Value} {x y : Value} {b : Bool} {o : Obj} {Q : Value → Shared → Prop} (D : ZipApart z TI TO i1 i2 l1 l2)
    (hz : IsZipK s.heap z TI TO (rawInt T0) b) (ho : s.heap.get? T0 = some o) (hTI : IsPair s.heap TI (.ref i1) (.ref i2))
    (h1 : s.heap.IsListIter i1 l1 k1) (h2 : s.heap.IsListIter i2 l2 k2) (hl1 : s.heap.IsList l1 xs) (hl2 : s.heap.IsList l2 ys) (hx : xs[k1]? = some x) (hy : ys[k2]? = some y)
    (hQ : ∀ h', IsZipK h' z TI TO (rawInt T0) true → h'.IsListIter i1 l1 (k1 + 1) → h'.IsListIter i2 l2 (k2 + 1) → IsPair h' s.heap.objs.size x y → h'.objs.size = s.heap.objs.size + 1 →
      (∀ c o, c ≠ z → c ≠ i1 → c ≠ i2 → s.heap.get? c = some o → h'.get? c = some o) → Q (.ref s.heap.objs.size) { s with heap := h' }) :
    wpAny (model prog w) A (Builtin.«zip.__next__» ⟨[.ref z], []⟩) (fun fin s' => ∃ v, fin = .done (.ret v) ∧ Q v s') E s := by
  show wpAny _ _ (field (.ref z) 2 >>= _) _ _ _
  refine wpAny_bind (wpAny_field hz rfl (x := .bool false) rfl ?_)
  show wpAny _ _ (field (.ref z) 3 >>= _) _ _ _
  refine wpAny_bind (wpAny_field hz rfl (x := .ref TI) rfl ?_)
  refine wpAny_bind (wpAny_seqItems hTI rfl ?_)
  show wpAny _ _ (Builtin.SmallTypes.ownedTupleIsFree (.ref z) >>= _) _ _ _
  refine wpAny_bind (owned_not hz ho fun h₁ hz₁ hs₁ => ?_)
  simp only [Bool.false_eq_true, if_false]
  rw [← Array.forIn_toList]
  simp only [List.forIn_cons, List.forIn_nil]
  refine wpAny_bind (wpAny_bind (wpAny_bind (wpAny_holding ?_)))
  show wpAny _ _ (Builtin.SmallTypes.nextOf (.ref i1) >>= _) _ _ _
  refine wpAny_bind (wpAny_nextOf_list_item (h1.extBut hs₁.extBut D.i1z) (hl1.extBut hs₁.extBut D.l1z) hx fun h₂ h1₂ hs₂ => wpAny_pure (wpAny_pure ?_))
  refine wpAny_bind (wpAny_bind (wpAny_holding ?_))
  show wpAny _ _ (Builtin.SmallTypes.nextOf (.ref i2) >>= _) _ _ _
  refine wpAny_bind (wpAny_nextOf_list_item ((h2.extBut hs₁.extBut D.i2z).extBut hs₂.extBut D.i12.symm) ((hl2.extBut hs₁.extBut D.l2z).extBut hs₂.extBut D.l2i1) hy fun h₃ h2₃ hs₃ => wpAny_pure (wpAny_pure (wpAny_pure ?_)))
  show wpAny _ _ (newTuple [x, y] >>= _) _ _ _
  refine wpAny_bind (wpAny_newTuple ?_)
  have hsz : h₃.objs.size = s.heap.objs.size := by rw [hs₃.1, hs₂.1, hs₁.1]
  have hz₃ : IsZipK h₃ z TI TO (rawInt T0) true := hs₃.extBut _ _ D.i2z.symm (hs₂.extBut _ _ D.i1z.symm hz₁)
  have h1₃ : h₃.IsListIter i1 l1 (k1 + 1) := h1₂.extBut hs₃.extBut D.i12
  refine wpAny_pure ⟨_, rfl, ?_⟩
  show Q (.ref h₃.objs.size) _
  rw [hsz]
  refine hQ _ (Heap.get?_push_of_some _ hz₃) (h1₃.at fun o e => Heap.get?_push_of_some _ e) (h2₃.at fun o e => Heap.get?_push_of_some _ e) ?_ (by rw [Heap.size_push, hsz]) fun c o c1 c3 c4 e => Heap.get?_push_of_some _ (hs₃.extBut _ _ c4 (hs₂.extBut _ _ c3 (hs₁.extBut _ _ c1 e)))
  rw [← hsz]
  exact Heap.get?_push_size _ rfl
theorem zip_kept_end {z TI TO i1 i2 l1 l2 T0 : Addr} {k1 k2 : Nat} {xs ys : Array Value} {b : Bool} {o : Obj} {Q : Fin → Shared → Prop} (hh : A.handled = none) (D : ZipApart z TI TO i1 i2 l1 l2)
    (hz : IsZipK s.heap z TI TO (rawInt T0) b) (ho : s.heap.get? T0 = some o) (hTI : IsPair s.heap TI (.ref i1) (.ref i2))
    (h1 : s.heap.IsListIter i1 l1 k1) (h2 : s.heap.IsListIter i2 l2 k2) (hl1 : s.heap.IsList l1 xs) (hl2 : s.heap.IsList l2 ys) (hend : xs[k1]? = none ∨ ys[k2]? = none)
    (hE : ∀ h' e, (∀ c o, c ≠ z → c ≠ TO → c ≠ i1 → c ≠ i2 → s.heap.get? c = some o → h'.get? c = some o) → (∃ o, h'.get? e = some o ∧ o.cls = .type "StopIteration") → E (.ref e) { s with heap := h' }) :
    wpAny (model prog w) A (Builtin.«zip.__next__» ⟨[.ref z], []⟩) Q E s := by
  show wpAny _ _ (field (.ref z) 2 >>= _) _ _ _
  refine wpAny_bind (wpAny_field hz rfl (x := .bool false) rfl ?_)
  show wpAny _ _ (field (.ref z) 3 >>= _) _ _ _
  refine wpAny_bind (wpAny_field hz rfl (x := .ref TI) rfl ?_)
  refine wpAny_bind (wpAny_seqItems hTI rfl ?_)
  show wpAny _ _ (Builtin.SmallTypes.ownedTupleIsFree (.ref z) >>= _) _ _ _
  refine wpAny_bind (owned_not hz ho fun h₁ hz₁ hs₁ => ?_)
  simp only [Bool.false_eq_true, if_false]
  rw [← Array.forIn_toList]
  simp only [List.forIn_cons, List.forIn_nil]
  refine wpAny_bind (wpAny_bind (wpAny_bind (wpAny_holding ?_)))
  show wpAny _ _ (Builtin.SmallTypes.nextOf (.ref i1) >>= _) _ _ _
  cases hx : xs[k1]? with
  | none => exact wpAny_bind (wpAny_nextOf_list_end hh (h1.extBut hs₁.extBut D.i1z) (hl1.extBut hs₁.extBut D.l1z) hx fun h₂ e hs₂ he => hE h₂ e (fun c o c1 _ c3 _ x => hs₂ _ _ c3 (hs₁.extBut _ _ c1 x)) he)
  | some x =>
    have hy : ys[k2]? = none := by rcases hend with h | h; rw [hx] at h; cases h; exact h
    refine wpAny_bind (wpAny_nextOf_list_item (h1.extBut hs₁.extBut D.i1z) (hl1.extBut hs₁.extBut D.l1z) hx fun h₂ h1₂ hs₂ => wpAny_pure (wpAny_pure ?_))
    refine wpAny_bind (wpAny_bind (wpAny_holding ?_))
    show wpAny _ _ (Builtin.SmallTypes.nextOf (.ref i2) >>= _) _ _ _
    exact wpAny_bind (wpAny_nextOf_list_end hh ((h2.extBut hs₁.extBut D.i2z).extBut hs₂.extBut D.i12.symm) ((hl2.extBut hs₁.extBut D.l2z).extBut hs₂.extBut D.l2i1) hy fun h₄ e hs₄ he => hE h₄ e (fun c o c1 c2 c3 c4 x => hs₄ _ _ c4 (hs₂.extBut _ _ c3 (hs₁.extBut _ _ c1 x))) he)
/-- the zip is free: from any mark -/
theorem zip_next_free {z TI TO i1 i2 l1 l2 : Addr} {k1 k2 : Nat} {xs ys : Array Value} {x y u v f0 : Value} {b : Bool} {Q : Value → Shared → Prop} (D : ZipApart z TI TO i1 i2 l1 l2)
    (hz : IsZipK s.heap z TI TO f0 b) (fr : ∀ (A' : Around) (E' : Value → Shared → Prop) (R : Bool → Shared → Prop), R true s → wpAny (model prog w) A' (Builtin.SmallTypes.ownedTupleIsFree (.ref z)) R E' s) (hTI : IsPair s.heap TI (.ref i1) (.ref i2)) (hTO : IsPair s.heap TO u v)
    (h1 : s.heap.IsListIter i1 l1 k1) (h2 : s.heap.IsListIter i2 l2 k2) (hl1 : s.heap.IsList l1 xs) (hl2 : s.heap.IsList l2 ys) (hx : xs[k1]? = some x) (hy : ys[k2]? = some y)
    (hQ : ∀ h', IsZipK h' z TI TO (rawInt s.heap.objs.size) false → IsPair h' TO x y → h'.IsListIter i1 l1 (k1 + 1) → h'.IsListIter i2 l2 (k2 + 1) → IsPair h' s.heap.objs.size x y → h'.objs.size = s.heap.objs.size + 1 →
      (∀ c o, c ≠ z → c ≠ TO → c ≠ i1 → c ≠ i2 → s.heap.get? c = some o → h'.get? c = some o) → Q (.ref s.heap.objs.size) { s with heap := h' }) :
    wpAny (model prog w) A (Builtin.«zip.__next__» ⟨[.ref z], []⟩) (fun fin s' => ∃ v, fin = .done (.ret v) ∧ Q v s') E s := by
  show wpAny _ _ (field (.ref z) 2 >>= _) _ _ _
  refine wpAny_bind (wpAny_field hz rfl (x := .bool false) rfl ?_)
  show wpAny _ _ (field (.ref z) 3 >>= _) _ _ _
  refine wpAny_bind (wpAny_field hz rfl (x := .ref TI) rfl (wpAny_bind (wpAny_seqItems hTI rfl ?_)))
  show wpAny _ _ (Builtin.SmallTypes.ownedTupleIsFree (.ref z) >>= _) _ _ _
  refine wpAny_bind (fr _ _ _ ?_)
  simp only [if_true]
  refine wpAny_bind (wpAny_rule (wpAny_bind (wpAny_field hz rfl (x := .ref TO) rfl (wpAny_bind (wpAny_setField_rec hz (by simp) fun g1 z1 b1 => ?_)))))
  have z1' : IsZipK g1 z TI TO .ellipsis b := z1
  simp only [List.zipIdx_cons, List.zipIdx_nil, List.forIn_cons, List.forIn_nil]
  refine wpAny_bind (wpAny_bind (wpAny_bind (wpAny_onRaise ?_)))
  show wpAny _ _ (Builtin.SmallTypes.nextOf (.ref i1) >>= _) _ _ _
  refine wpAny_bind (wpAny_nextOf_list_item (h1.extBut b1.extBut D.i1z) (hl1.extBut b1.extBut D.l1z) hx fun g2 p2 b2 => wpAny_pure ?_)
  have t2 : IsPair g2 TO u v := b2.extBut _ _ D.TOi1 (b1.extBut _ _ D.TOz hTO)
  refine wpAny_bind (wpAny_seqItems t2 rfl (wpAny_bind (wpAny_updateSeq_pair t2 fun g3 t3 b3 => wpAny_bind (wpAny_letGo (wpAny_pure ?_)))))
  refine wpAny_bind (wpAny_bind (wpAny_onRaise ?_))
  show wpAny _ _ (Builtin.SmallTypes.nextOf (.ref i2) >>= _) _ _ _
  refine wpAny_bind (wpAny_nextOf_list_item (((h2.extBut b1.extBut D.i2z).extBut b2.extBut D.i12.symm).extBut b3.extBut D.TOi2.symm) (((hl2.extBut b1.extBut D.l2z).extBut b2.extBut D.l2i1).extBut b3.extBut D.l2TO) hy fun g4 p4 b4 => wpAny_pure ?_)
  have t4 : IsPair g4 TO x v := b4.extBut _ _ D.TOi2 t3
  refine wpAny_bind (wpAny_seqItems t4 rfl (wpAny_bind (wpAny_updateSeq_pair t4 fun g5 t5' b5 => wpAny_bind (wpAny_letGo (wpAny_pure (wpAny_pure ?_))))))
  have t5 : IsPair g5 TO x y := t5'
  refine wpAny_bind (wpAny_seqItems t5 rfl (wpAny_bind (wpAny_newTuple ?_)))
  have sz : g5.objs.size = s.heap.objs.size := by rw [b5.1, b4.1, b3.1, b2.1, b1.1]
  have z5 : IsZipK g5 z TI TO .ellipsis b := b5.extBut _ _ D.TOz.symm (b4.extBut _ _ D.i2z.symm (b3.extBut _ _ D.TOz.symm (b2.extBut _ _ D.i1z.symm z1')))
  have p5 : g5.IsListIter i1 l1 (k1 + 1) := ((p2.extBut b3.extBut D.TOi1.symm).extBut b4.extBut D.i12).extBut b5.extBut D.TOi1.symm
  have q5 : g5.IsListIter i2 l2 (k2 + 1) := p4.extBut b5.extBut D.TOi2.symm
  have zl : z < g5.objs.size := Heap.lt_size z5
  show wpAny _ _ (Builtin.SmallTypes.ownedTupleHandOut (.ref z) (.ref g5.objs.size) >>= _) _ _ _
  refine wpAny_bind ?_
  unfold Builtin.SmallTypes.ownedTupleHandOut
  have z6 : IsZipK (g5.push { cls := .type "tuple", data := .seq #[x, y] }) z TI TO .ellipsis b := Heap.get?_push_of_some _ z5
  refine wpAny_bind (wpAny_setField_rec z6 (by simp) fun g7 z7 b7 => ?_)
  have z7' : IsZipK g7 z TI TO (rawInt g5.objs.size) b := z7
  refine wpAny_setField_rec z7' (by simp) fun g8 z8 b8 => ?_
  have z8' : IsZipK g8 z TI TO (rawInt g5.objs.size) false := z8
  have up : ∀ c o, c ≠ z → g5.get? c = some o → g8.get? c = some o := fun c o ne e => b8.extBut _ _ ne (b7.extBut _ _ ne (Heap.get?_push_of_some _ e))
  have T8 : IsPair g8 g5.objs.size x y := b8.extBut _ _ (Nat.ne_of_gt zl) (b7.extBut _ _ (Nat.ne_of_gt zl) (Heap.get?_push_size _ rfl))
  have s8 : g8.objs.size = g5.objs.size + 1 := by rw [b8.1, b7.1, Heap.size_push]
  rw [sz] at z8' T8 s8
  refine wpAny_pure ⟨_, rfl, ?_⟩
  show Q (.ref g5.objs.size) _
  rw [sz]
  exact hQ g8 z8' (up _ _ D.TOz t5) (p5.at fun o e => up _ o D.i1z e) (q5.at fun o e => up _ o D.i2z e) T8 s8 fun c o c1 c2 c3 c4 e => up c o c1 (b5.extBut _ _ c2 (b4.extBut _ _ c4 (b3.extBut _ _ c2 (b2.extBut _ _ c3 (b1.extBut _ _ c1 e)))))
theorem zip_free_end {z TI TO i1 i2 l1 l2 : Addr} {k1 k2 : Nat} {xs ys : Array Value} {u v f0 : Value} {b : Bool} {Q : Fin → Shared → Prop} (hh : A.handled = none) (D : ZipApart z TI TO i1 i2 l1 l2)
    (hz : IsZipK s.heap z TI TO f0 b) (fr : ∀ (A' : Around) (E' : Value → Shared → Prop) (R : Bool → Shared → Prop), R true s → wpAny (model prog w) A' (Builtin.SmallTypes.ownedTupleIsFree (.ref z)) R E' s) (hTI : IsPair s.heap TI (.ref i1) (.ref i2)) (hTO : IsPair s.heap TO u v)
    (h1 : s.heap.IsListIter i1 l1 k1) (h2 : s.heap.IsListIter i2 l2 k2) (hl1 : s.heap.IsList l1 xs) (hl2 : s.heap.IsList l2 ys) (hend : xs[k1]? = none ∨ ys[k2]? = none)
    (hE : ∀ h' e, (∀ c o, c ≠ z → c ≠ TO → c ≠ i1 → c ≠ i2 → s.heap.get? c = some o → h'.get? c = some o) → (∃ o, h'.get? e = some o ∧ o.cls = .type "StopIteration") → E (.ref e) { s with heap := h' }) :
    wpAny (model prog w) A (Builtin.«zip.__next__» ⟨[.ref z], []⟩) Q E s := by
  show wpAny _ _ (field (.ref z) 2 >>= _) _ _ _
  refine wpAny_bind (wpAny_field hz rfl (x := .bool false) rfl ?_)
  show wpAny _ _ (field (.ref z) 3 >>= _) _ _ _
  refine wpAny_bind (wpAny_field hz rfl (x := .ref TI) rfl (wpAny_bind (wpAny_seqItems hTI rfl ?_)))
  show wpAny _ _ (Builtin.SmallTypes.ownedTupleIsFree (.ref z) >>= _) _ _ _
  refine wpAny_bind (fr _ _ _ ?_)
  simp only [if_true]
  refine wpAny_bind (wpAny_rule (wpAny_bind (wpAny_field hz rfl (x := .ref TO) rfl (wpAny_bind (wpAny_setField_rec hz (by simp) fun g1 z1 b1 => ?_)))))
  have z1' : IsZipK g1 z TI TO .ellipsis b := z1
  simp only [List.zipIdx_cons, List.zipIdx_nil, List.forIn_cons, List.forIn_nil]
  refine wpAny_bind (wpAny_bind (wpAny_bind (wpAny_onRaise ?_)))
  show wpAny _ _ (Builtin.SmallTypes.nextOf (.ref i1) >>= _) _ _ _
  cases hx : xs[k1]? with
  | none =>
    refine wpAny_bind (wpAny_nextOf_list_end hh (h1.extBut b1.extBut D.i1z) (hl1.extBut b1.extBut D.l1z) hx fun g2 e b2 he => ?_)
    obtain ⟨oe, hoe, hce⟩ := he
    have z2 : IsZipK g2 z TI TO .ellipsis b := b2 _ _ D.i1z.symm z1'
    have ez : e ≠ z := fun q => by subst q; rw [z2] at hoe; cases hoe; simp at hce
    exact wpAny_setField_rec z2 (by simp) fun g3 _ b3 => hE g3 e (fun c o c1 _ c3 _ q => b3.extBut _ _ c1 (b2 _ _ c3 (b1.extBut _ _ c1 q))) ⟨oe, b3.extBut _ _ ez hoe, hce⟩
  | some x =>
    have hy : ys[k2]? = none := by rcases hend with h | h; rw [hx] at h; cases h; exact h
    refine wpAny_bind (wpAny_nextOf_list_item (h1.extBut b1.extBut D.i1z) (hl1.extBut b1.extBut D.l1z) hx fun g2 p2 b2 => wpAny_pure ?_)
    have t2 : IsPair g2 TO u v := b2.extBut _ _ D.TOi1 (b1.extBut _ _ D.TOz hTO)
    refine wpAny_bind (wpAny_seqItems t2 rfl (wpAny_bind (wpAny_updateSeq_pair t2 fun g3 t3 b3 => wpAny_bind (wpAny_letGo (wpAny_pure ?_)))))
    refine wpAny_bind (wpAny_bind (wpAny_onRaise ?_))
    show wpAny _ _ (Builtin.SmallTypes.nextOf (.ref i2) >>= _) _ _ _
    refine wpAny_bind (wpAny_nextOf_list_end hh (((h2.extBut b1.extBut D.i2z).extBut b2.extBut D.i12.symm).extBut b3.extBut D.TOi2.symm) (((hl2.extBut b1.extBut D.l2z).extBut b2.extBut D.l2i1).extBut b3.extBut D.l2TO) hy fun g4 e b4 he => ?_)
    obtain ⟨oe, hoe, hce⟩ := he
    have z4 : IsZipK g4 z TI TO .ellipsis b := b4 _ _ D.i2z.symm (b3.extBut _ _ D.TOz.symm (b2.extBut _ _ D.i1z.symm z1'))
    have ez : e ≠ z := fun q => by subst q; rw [z4] at hoe; cases hoe; simp at hce
    exact wpAny_setField_rec z4 (by simp) fun g5 _ b5 => hE g5 e (fun c o c1 c2 c3 c4 q => b5.extBut _ _ c1 (b4 _ _ c4 (b3.extBut _ _ c2 (b2.extBut _ _ c3 (b1.extBut _ _ c1 q))))) ⟨oe, b5.extBut _ _ ez hoe, hce⟩
/-- what the zip is like between two draws -/
def ZipRest (h : Heap) (z TI TO : Addr) : Prop := ∃ f0 b, IsZipK h z TI TO f0 b ∧ (f0 = .none ∨ ∃ T0 : Addr, f0 = rawInt T0)
theorem nextOf_zip {z TI TO i1 i2 l1 l2 : Addr} {k1 k2 : Nat} {xs ys : Array Value} {x y u v : Value} {Q : Value → Shared → Prop} (D : ZipApart z TI TO i1 i2 l1 l2)
    (hz : ZipRest s.heap z TI TO) (hTI : IsPair s.heap TI (.ref i1) (.ref i2)) (hTO : IsPair s.heap TO u v)
    (h1 : s.heap.IsListIter i1 l1 k1) (h2 : s.heap.IsListIter i2 l2 k2) (hl1 : s.heap.IsList l1 xs) (hl2 : s.heap.IsList l2 ys) (hx : xs[k1]? = some x) (hy : ys[k2]? = some y)
    (hQ : ∀ h', ZipRest h' z TI TO → (∃ u v, IsPair h' TO u v) → h'.IsListIter i1 l1 (k1 + 1) → h'.IsListIter i2 l2 (k2 + 1) → IsPair h' s.heap.objs.size x y → h'.objs.size = s.heap.objs.size + 1 →
      (∀ c o, c ≠ z → c ≠ TO → c ≠ i1 → c ≠ i2 → s.heap.get? c = some o → h'.get? c = some o) → Q (.ref s.heap.objs.size) { s with heap := h' }) :
    wpAny (model prog w) A (Builtin.SmallTypes.nextOf (.ref z)) Q E s := by
  obtain ⟨f0, b, hz, hf⟩ := hz
  have hT : s.TypeIs (.ref z) "zip" := ⟨_, hz, rfl⟩
  unfold Builtin.SmallTypes.nextOf
  refine wpAny_bind (wpAny_callSpecial?_slot (name := Str.ofString "__next__") hT F.slot_zip_next (wpAny_call_entry F.slot_zip_next hT F.entry_zip_next ?_ (F.args_zip_next_1 _)))
  have free : ∀ (R : Value → Shared → Prop), (∀ v s', Q v s' → R v s') → (∀ (A' : Around) (E' : Value → Shared → Prop) (R : Bool → Shared → Prop), R true s → wpAny (model prog w) A' (Builtin.SmallTypes.ownedTupleIsFree (.ref z)) R E' s) → wpAny (model prog w) A.in1 (Builtin.«zip.__next__» ⟨[.ref z], []⟩) (fun fin s' => ∃ v, fin = .done (.ret v) ∧ R v s') E s := fun R up fr =>
    zip_next_free D hz fr hTI hTO h1 h2 hl1 hl2 hx hy fun h' a1 a2 a3 a4 a5 a6 a7 => up _ _ (hQ h' ⟨_, _, a1, .inr ⟨_, rfl⟩⟩ ⟨_, _, a2⟩ a3 a4 a5 a6 a7)
  rcases hf with rfl | ⟨T0, rfl⟩
  · refine free _ (fun v s' q => wpAny_pure q) fun A' E' R r => ?_
    unfold Builtin.SmallTypes.ownedTupleIsFree
    exact wpAny_bind (wpAny_field hz rfl (x := .none) rfl (wpAny_pure r))
  · cases ho : s.heap.get? T0 with
    | none => exact free _ (fun v s' q => wpAny_pure q) fun A' E' R r => owned_dead hz ho r
    | some o => exact zip_next_kept D hz ho hTI h1 h2 hl1 hl2 hx hy fun h' a1 a3 a4 a5 a6 a7 => wpAny_pure (hQ h' ⟨_, _, a1, .inr ⟨_, rfl⟩⟩ ⟨u, v, a7 _ _ D.TOz D.TOi1 D.TOi2 hTO⟩ a3 a4 a5 a6 fun c o c1 c2 c3 c4 e => a7 c o c1 c3 c4 e)
theorem nextOf_zip_end {z TI TO i1 i2 l1 l2 : Addr} {k1 k2 : Nat} {xs ys : Array Value} {u v : Value} {Q : Value → Shared → Prop} (hh : A.handled = none) (D : ZipApart z TI TO i1 i2 l1 l2)
    (hz : ZipRest s.heap z TI TO) (hTI : IsPair s.heap TI (.ref i1) (.ref i2)) (hTO : IsPair s.heap TO u v)
    (h1 : s.heap.IsListIter i1 l1 k1) (h2 : s.heap.IsListIter i2 l2 k2) (hl1 : s.heap.IsList l1 xs) (hl2 : s.heap.IsList l2 ys) (hend : xs[k1]? = none ∨ ys[k2]? = none)
    (hE : ∀ h' e, (∀ c o, c ≠ z → c ≠ TO → c ≠ i1 → c ≠ i2 → s.heap.get? c = some o → h'.get? c = some o) → (∃ o, h'.get? e = some o ∧ o.cls = .type "StopIteration") → E (.ref e) { s with heap := h' }) :
    wpAny (model prog w) A (Builtin.SmallTypes.nextOf (.ref z)) Q E s := by
  obtain ⟨f0, b, hz, hf⟩ := hz
  have hT : s.TypeIs (.ref z) "zip" := ⟨_, hz, rfl⟩
  unfold Builtin.SmallTypes.nextOf
  refine wpAny_bind (wpAny_callSpecial?_slot (name := Str.ofString "__next__") hT F.slot_zip_next (wpAny_call_entry F.slot_zip_next hT F.entry_zip_next ?_ (F.args_zip_next_1 _)))
  have hh1 : A.in1.handled = none := hh
  rcases hf with rfl | ⟨T0, rfl⟩
  · refine zip_free_end hh1 D hz (fun A' E' R r => ?_) hTI hTO h1 h2 hl1 hl2 hend hE
    unfold Builtin.SmallTypes.ownedTupleIsFree
    exact wpAny_bind (wpAny_field hz rfl (x := .none) rfl (wpAny_pure r))
  · cases ho : s.heap.get? T0 with
    | none => exact zip_free_end hh1 D hz (fun A' E' R r => owned_dead hz ho r) hTI hTO h1 h2 hl1 hl2 hend hE
    | some o => exact zip_kept_end hh1 D hz ho hTI h1 h2 hl1 hl2 hend hE
end
end My
namespace My
open PySem PySem.Spec PyProof.Rows L2 LamX
section
variable {prog : Program} {w : World} {A : Around} {E : Value → Shared → Prop} {s : Shared}
theorem enum_over {e it : Addr} {i : Nat} {old : Value} {R : Value → Heap → Prop} {Q : Value → Shared → Prop} (he : IsEnum s.heap e it i old)
    (draw : ∀ Q' : Value → Shared → Prop, (∀ x g, R x g → IsEnum g e it i old → Q' x { s with heap := g }) → wpAny (model prog w) A (Builtin.SmallTypes.nextOf (.ref it)) Q' E s)
    (hQ : ∀ x g h', R x g → IsEnumOut h' e it ((i : Int) + 1) x g.objs.size → h'.get? g.objs.size = some { cls := .type "tuple", data := .seq #[.int i s.toks, x] } → h'.objs.size = g.objs.size + 1 →
      (∀ b o, b ≠ e → g.get? b = some o → h'.get? b = some o) → Q (.ref g.objs.size) { s with heap := h', toks := s.toks + 1 }) :
    wpAny (model prog w) A (Builtin.«enumerate.__next__» ⟨[.ref e], []⟩) (fun fin s' => ∃ v, fin = .done (.ret v) ∧ Q v s') E s := by
  obtain ⟨hp, gn, dr, tk, os⟩ := s
  show wpAny _ _ (field (.ref e) 2 >>= _) _ _ _
  refine wpAny_bind (wpAny_field he rfl (x := .ref it) rfl (wpAny_bind (draw _ fun x g r e0 => ?_)))
  show wpAny _ _ (field (.ref e) 3 >>= _) _ _ ⟨g, gn, dr, tk, os⟩
  refine wpAny_bind (wpAny_field e0 rfl (x := rawInt i) rfl ?_)
  show wpAny _ _ (field (.ref e) 4 >>= _) _ _ ⟨g, gn, dr, tk, os⟩
  refine wpAny_bind (wpAny_field e0 rfl (x := .none) rfl ?_)
  show wpAny _ _ (mkInt i >>= _) _ _ ⟨g, gn, dr, tk, os⟩
  refine wpAny_bind (wpAny_mkInt ?_)
  show wpAny _ _ (setField (.ref e) 3 (rawInt ((i : Int) + 1)) >>= _) _ _ ⟨g, gn, dr, tk + 1, os⟩
  refine wpAny_bind (wpAny_setField_rec e0 (by simp) fun g1 e1 b1 => ?_)
  have e1' : IsEnum g1 e it ((i : Int) + 1) old := e1
  show wpAny _ _ (setField (.ref e) 4 .none >>= _) _ _ ⟨g1, gn, dr, tk + 1, os⟩
  refine wpAny_bind (wpAny_setField_rec e1' (by simp) fun g2 e2 b2 => ?_)
  have e2' : IsEnum g2 e it ((i : Int) + 1) old := e2
  have s2 : g2.objs.size = g.objs.size := by rw [b2.1, b1.1]
  have el : e < g.objs.size := Heap.lt_size e0
  show wpAny _ _ (newTuple [.int i tk, x] >>= _) _ _ ⟨g2, gn, dr, tk + 1, os⟩
  refine wpAny_bind (wpAny_newTuple ?_)
  have e3 : IsEnum (g2.push { cls := .type "tuple", data := .seq #[.int i tk, x] }) e it ((i : Int) + 1) old := Heap.get?_push_of_some _ e2'
  have T3 : (g2.push { cls := .type "tuple", data := .seq #[.int i tk, x] }).get? g.objs.size = some { cls := .type "tuple", data := .seq #[.int i tk, x] } := by rw [← s2]; exact Heap.get?_push_size _ rfl
  have z3 : (g2.push { cls := .type "tuple", data := .seq #[.int i tk, x] }).objs.size = g.objs.size + 1 := by rw [Heap.size_push, s2]
  have k3 : ∀ b o, b ≠ e → g.get? b = some o → (g2.push { cls := .type "tuple", data := .seq #[.int i tk, x] }).get? b = some o := fun b o ne h => Heap.get?_push_of_some _ (b2.extBut b o ne (b1.extBut b o ne h))
  rw [s2]
  show wpAny _ _ (Builtin.SmallTypes.ownedTupleIsFree (.ref e) >>= _) _ _ ⟨g2.push { cls := .type "tuple", data := .seq #[.int i tk, x] }, gn, dr, tk + 1, os⟩
  generalize g2.push { cls := .type "tuple", data := .seq #[.int i tk, x] } = g3 at e3 T3 z3 k3
  refine wpAny_bind ?_
  unfold Builtin.SmallTypes.ownedTupleIsFree
  refine wpAny_bind (wpAny_field e3 rfl (x := .none) rfl (wpAny_pure ?_))
  simp only [if_true]
  refine wpAny_bind (wpAny_rule (wpAny_bind (wpAny_field e3 rfl (x := old) rfl (wpAny_bind (wpAny_setField_rec e3 (by simp) fun g5 e5 b5 => ?_)))))
  have e5' : IsEnum g5 e it ((i : Int) + 1) x := e5
  show wpAny _ _ (Builtin.SmallTypes.ownedTupleHandOut (.ref e) (.ref g.objs.size) >>= _) _ _ ⟨g5, gn, dr, tk + 1, os⟩
  refine wpAny_bind ?_
  unfold Builtin.SmallTypes.ownedTupleHandOut
  refine wpAny_bind (wpAny_setField_rec e5' (by simp) fun g6 e6 b6 => ?_)
  have e6' : IsEnumOut g6 e it ((i : Int) + 1) x g.objs.size := e6
  refine wpAny_setField_rec e6' (by simp) fun g7 e7 b7 => ?_
  have e7' : IsEnumOut g7 e it ((i : Int) + 1) x g.objs.size := e7
  have up : ∀ b o, b ≠ e → g3.get? b = some o → g7.get? b = some o := fun b o ne h => b7.extBut b o ne (b6.extBut b o ne (b5.extBut b o ne h))
  exact wpAny_bind (wpAny_letGo (wpAny_pure ⟨_, rfl, hQ x g g7 r e7' (up _ _ (Nat.ne_of_gt el) T3) (by rw [b7.1, b6.1, b5.1, z3]) fun b o ne h => up b o ne (k3 b o ne h)⟩))
theorem pyNext_over {e it : Addr} {i : Nat} {old : Value} {R : Value → Heap → Prop} {Q : Option Value → Shared → Prop} (he : IsEnum s.heap e it i old)
    (draw : ∀ Q' : Value → Shared → Prop, (∀ x g, R x g → IsEnum g e it i old → Q' x { s with heap := g }) → ∀ E' : Value → Shared → Prop, wpAny (model prog w) A.in1 (Builtin.SmallTypes.nextOf (.ref it)) Q' E' s)
    (hQ : ∀ x g h', R x g → IsEnumOut h' e it ((i : Int) + 1) x g.objs.size → h'.get? g.objs.size = some { cls := .type "tuple", data := .seq #[.int i s.toks, x] } → h'.objs.size = g.objs.size + 1 →
      (∀ b o, b ≠ e → g.get? b = some o → h'.get? b = some o) → Q (some (.ref g.objs.size)) { s with heap := h', toks := s.toks + 1 }) :
    wpAny (model prog w) A (pyNext (.ref e)) Q E s := by
  have hT : s.TypeIs (.ref e) "enumerate" := ⟨_, he, rfl⟩
  unfold pyNext
  exact wpAny_bind (wpAny_attempt (wpAny_callSpecial?_slot (name := Str.ofString "__next__") hT F.slot_enumerate_next
    (wpAny_call_entry F.slot_enumerate_next hT F.entry_enumerate_next (enum_over he (fun Q' h => draw Q' h _) fun x g h' r a b c k => wpAny_pure (hQ x g h' r a b c k)) (F.args_enumerate_next_1 _))))
theorem pyNext_over_end {e it : Addr} {i : Int} {old : Value} {R : Heap → Prop} {Q : Option Value → Shared → Prop} (he : IsEnum s.heap e it i old)
    (draw : ∀ (Q' E' : Value → Shared → Prop), (∀ g x, R g → (∃ o, g.get? x = some o ∧ o.cls = .type "StopIteration") → E' (.ref x) { s with heap := g }) → wpAny (model prog w) A.in1 (Builtin.SmallTypes.nextOf (.ref it)) Q' E' s)
    (hQ : ∀ g, R g → Q none { s with heap := g }) : wpAny (model prog w) A (pyNext (.ref e)) Q E s := by
  have hT : s.TypeIs (.ref e) "enumerate" := ⟨_, he, rfl⟩
  unfold pyNext
  refine wpAny_bind (wpAny_attempt (wpAny_callSpecial?_slot (name := Str.ofString "__next__") hT F.slot_enumerate_next (wpAny_call_entry F.slot_enumerate_next hT F.entry_enumerate_next ?_ (F.args_enumerate_next_1 _))))
  show wpAny _ _ (field (.ref e) 2 >>= _) _ _ _
  refine wpAny_bind (wpAny_field he rfl (x := .ref it) rfl (wpAny_bind (draw _ _ fun g x r hx => ?_)))
  obtain ⟨o, ho, hc⟩ := hx
  exact wpAny_bind (wpAny_isInstance (T := "StopIteration") (b := true) ⟨o, ho, hc⟩ isSubtype_stop (wpAny_pure (hQ _ r)))
end
theorem enum_new_zip (z TI TO : Addr) : Meets (Builtin.«enumerate.__new__» ⟨[.type "enumerate", .ref z], []⟩) (fun _ R s => IsZip s.heap z TI TO .none ∧
      R (.ok (.ret (.ref s.heap.objs.size))) { s with heap := s.heap.push { cls := .type "enumerate", data := .fields #[.none, .bool false, .ref z, rawInt 0, .none, .none] } }) :=
  .of_wp fun prog w A R s h => by
    obtain ⟨hp, gn, dr, tk, os⟩ := s
    obtain ⟨hz, h⟩ := h
    have hsub := sub_enumerate
    have q1 : ∀ {A' : Around} {E : Value → Shared → Prop} {Q : Value → Shared → Prop}, Q (.ref z) ⟨hp, gn, dr, tk, os⟩ → wpAny (model prog w) A' (pyIter (.ref z)) Q E ⟨hp, gn, dr, tk, os⟩ := fun q => wpAny_pyIter_zip hz q
    wp_walk using q1, wpAny_loadPart' hz
    refine wpAny_stack_any fun st => wpAny_pure ?_
    split
    · rename_i c _ _ _ _ _
      cases (c == Value.type "enumerate")
      · wp_walk using q1, wpAny_loadPart' hz
        exact ⟨_, rfl, h⟩
      · wp_walk using q1, wpAny_loadPart' hz
        exact ⟨_, rfl, h⟩
    · wp_walk using q1, wpAny_loadPart' hz
      exact ⟨_, rfl, h⟩
end My
namespace My
open PySem PySem.Spec PyProof.Rows L2 LamX
theorem call_enum_zip {prog : Program} {w : World} {A : Around} {E : Value → Shared → Prop} {s : Shared} {z TI TO : Addr} {Q : Value → Shared → Prop} (hz : IsZip s.heap z TI TO .none)
    (h : ∀ h', IsEnum h' s.heap.objs.size z 0 .none → h'.objs.size = s.heap.objs.size + 1 → (∀ b o, s.heap.get? b = some o → h'.get? b = some o) → Q (.ref s.heap.objs.size) { s with heap := h' }) :
    wpAny (model prog w) A (call (.type "enumerate") [.ref z]) Q E s := by
  refine callType_new F.called_enumerate (by decide) (F.typeCall_enumerate_1 _) (F.newCall_enumerate_1 _) (fun obj => F.args_object_init_2 obj _) F.entry_enumerate_new (enum_new_zip z TI TO) ⟨hz, ?_⟩
  have he : IsEnum (s.heap.push { cls := .type "enumerate", data := .fields #[.none, .bool false, .ref z, rawInt 0, .none, .none] }) s.heap.objs.size z 0 .none := Heap.get?_push_size _ rfl
  exact ⟨⟨_, he, rfl⟩, h _ he (Heap.size_push ..) fun b o e => Heap.get?_push_of_some _ e⟩
/-- index and pair, both new, of two lists as they stand -/
def Itez (K : PySem.W.Frag) (a b : Addr) : It :=
  ⟨fun i H => ∃ (xs ys : List V) (x y : V), SqL K H a xs ∧ SqL K H b ys ∧ xs[i]? = some x ∧ ys[i]? = some y,
    fun i H v H' => ∃ T U x y, v = .ref U ∧ H T = none ∧ upd H T (.tup [x, y]) U = none ∧ H' = upd (upd H T (.tup [x, y])) U (.tup [.int (i : Nat), .ref T]) ∧ (∀ xs, SqL K H a xs → xs[i]? = some x) ∧ ∀ ys, SqL K H b ys → ys[i]? = some y,
    fun i H => ∃ xs ys : List V, SqL K H a xs ∧ SqL K H b ys ∧ (xs.length ≤ i ∨ ys.length ≤ i)⟩
structure EzSt (e z TI TO i1 i2 a b : Addr) (i : Nat) (h : Heap) : Prop where
  en : ∃ old, IsEnum h e z ((i : Nat) : Int) old
  zp : ZipRest h z TI TO
  ti : IsPair h TI (.ref i1) (.ref i2)
  to : ∃ x y, IsPair h TO x y
  p1 : h.IsListIter i1 a i
  p2 : h.IsListIter i2 b i
theorem EzSt.lt {e z TI TO i1 i2 a b : Addr} {i : Nat} {h : Heap} (st : EzSt e z TI TO i1 i2 a b i h) : ∀ c ∈ [e, z, TI, TO, i1, i2], ∃ o, h.get? c = some o ∧ ∀ v, o.data ≠ .cell v := by
  intro c hc
  obtain ⟨⟨old, en⟩, ⟨f0, bb, zp, _⟩, ti, ⟨x, y, to⟩, ⟨o1, e1, _, d1⟩, ⟨o2, e2, _, d2⟩⟩ := st
  have c' : c = e ∨ c = z ∨ c = TI ∨ c = TO ∨ c = i1 ∨ c = i2 := by simpa using hc
  rcases c' with q | q | q | q | q | q <;> rw [q]
  · exact ⟨_, en, fun v q => nomatch q⟩
  · exact ⟨_, zp, fun v q => nomatch q⟩
  · exact ⟨_, ti, fun v q => nomatch q⟩
  · exact ⟨_, to, fun v q => nomatch q⟩
  · exact ⟨o1, e1, fun v q => by rw [d1] at q; cases q⟩
  · exact ⟨o2, e2, fun v q => by rw [d2] at q; cases q⟩
theorem EzSt.keep {e z TI TO i1 i2 a b : Addr} {i : Nat} {h h' : Heap} (st : EzSt e z TI TO i1 i2 a b i h) (k : ∀ c ∈ [e, z, TI, TO, i1, i2], ∀ o, h.get? c = some o → h'.get? c = some o) : EzSt e z TI TO i1 i2 a b i h' := by
  obtain ⟨⟨old, en⟩, ⟨f0, bb, zp, r⟩, ti, ⟨x, y, to⟩, p1, p2⟩ := st
  exact ⟨⟨old, k e (by simp) _ en⟩, ⟨f0, bb, k z (by simp) _ zp, r⟩, k TI (by simp) _ ti, ⟨x, y, k TO (by simp) _ to⟩, p1.at fun o q => k i1 (by simp) o q, p2.at fun o q => k i2 (by simp) o q⟩
theorem turn_enumzip {P : Program} {w : World} {K : PySem.W.Frag} {elts : List Expr} {kk : Nat} {tpos : Pos} {a b e z TI TO i1 i2 : Addr} (D : ZipApart z TI TO i1 i2 a b) (ne : ∀ c ∈ [z, TI, TO, i1, i2], e ≠ c) :
    Turn P w K (.Tuple elts kk tpos) (Itez K a b) [e, z, TI, TO, i1, i2] e (EzSt e z TI TO i1 i2 a b) where
  mem := by simp
  obj := fun i h st c hc => st.lt c hc
  keep := fun i h h' st k => st.keep k
  item := by
    intro X hP hw hK hc i pins s σ H E I hf st hg
    subst hP hw hK
    have lts := st.lt
    obtain ⟨⟨old, en⟩, zr, ti, ⟨x0, y0, to⟩, p1, p2⟩ := st
    obtain ⟨xs, ys, x, y, hqx, hqy, hx, hy⟩ := hg
    obtain ⟨its, rv, pl1, _⟩ := I.list hqx
    obtain ⟨its2, rv2, pl2, _⟩ := I.list hqy
    obtain ⟨u, hu, ru⟩ := rv.get hx
    obtain ⟨u2, hu2, ru2⟩ := rv2.get hy
    have ez := ne z (by simp)
    refine pyNext_over (R := fun v g => v = .ref s.heap.objs.size ∧ ZipRest g z TI TO ∧ (∃ u v, IsPair g TO u v) ∧ g.IsListIter i1 a (i + 1) ∧ g.IsListIter i2 b (i + 1) ∧ IsPair g s.heap.objs.size u u2 ∧ g.objs.size = s.heap.objs.size + 1 ∧
      (∀ c o, c ≠ z → c ≠ TO → c ≠ i1 → c ≠ i2 → s.heap.get? c = some o → g.get? c = some o)) en (fun Q' h E' => ?_) (fun v g h' hR eo hT hsz hk => ?_)
    · exact nextOf_zip D zr ti to p1 p2 pl1.isList pl2.isList (x := u) (y := u2) (by simpa using hu) (by simpa using hu2) fun g a1 a2 a3 a4 a5 a6 a7 => h _ g ⟨rfl, a1, a2, a3, a4, a5, a6, a7⟩ (a7 _ _ ez (ne TO (by simp)) (ne i1 (by simp)) (ne i2 (by simp)) en)
    · obtain ⟨rfl, zr1, ⟨u0, v0, to1⟩, p11, p21, hT1, gs, gk⟩ := hR
      refine ⟨_, rfl, wpAny_letOwnedTupleGo_enum (s := { s with heap := h', toks := s.toks + 1 }) eo fun h'' he' sb => ?_⟩
      have lt : ∀ c ∈ [e, z, TI, TO, i1, i2], c < s.heap.objs.size := fun c hc => by
        obtain ⟨o, ho, _⟩ := lts c hc
        exact Heap.lt_size ho
      have ele := lt e (by simp)
      have up : ∀ c o, c ≠ e → g.get? c = some o → h''.get? c = some o := fun c o n q => (sb.2 _ n).trans (hk c o n q)
      have new1 : ObjOk X.prog X.w (upd H s.heap.objs.size (.tup [x, y])) g s.heap.objs.size (.tup [x, y]) :=
        ⟨by show 2 ≤ sizeLine; decide, [u, u2], .cons ru (.cons ru2 .nil), ⟨_, hT1, rfl, _, rfl⟩⟩
      have I1 : Inv X pins σ (upd H s.heap.objs.size (.tup [x, y])) { s with heap := g, toks := s.toks } :=
        I.turnedNew (ch := [e, z, TI, TO, i1, i2]) (fun c o hb q => gk c o (fun z => hb (by simp [z])) (fun z => hb (by simp [z])) (fun z => hb (by simp [z])) (fun z => hb (by simp [z])) q) hf (Nat.le_refl _) new1
      have hf1 : ∀ c ∈ [e, z, TI, TO, i1, i2], FpOk X pins (upd H s.heap.objs.size (.tup [x, y])) c := fun c hc => ⟨by rw [upd_ne (Nat.ne_of_lt (lt c hc))]; exact (hf c hc).1, (hf c hc).2⟩
      have hT2 : h''.get? g.objs.size = some { cls := .type "tuple", data := .seq #[.int i s.toks, .ref s.heap.objs.size] } := (sb.2 _ (Nat.ne_of_gt (show e < g.objs.size by rw [gs]; exact Nat.lt_succ_of_lt ele))).trans hT
      have new2 : ObjOk X.prog X.w (upd (upd H s.heap.objs.size (.tup [x, y])) g.objs.size (.tup [.int (i : Nat), .ref s.heap.objs.size])) h'' g.objs.size (.tup [.int (i : Nat), .ref s.heap.objs.size]) :=
        ⟨by show 2 ≤ sizeLine; decide, [.int i s.toks, .ref s.heap.objs.size], .cons ⟨_, rfl⟩ (.cons rfl .nil), ⟨_, hT2, rfl, _, rfl⟩⟩
      have I2 : Inv X pins σ (upd (upd H s.heap.objs.size (.tup [x, y])) g.objs.size (.tup [.int (i : Nat), .ref s.heap.objs.size])) { s with heap := h'', toks := s.toks + 1 } :=
        I1.turnedNew (ch := [e, z, TI, TO, i1, i2]) (fun c o hb q => up c o (fun z => hb (by simp [z])) q) hf1 (Nat.le_refl _) new2
      refine ⟨.ref g.objs.size, _, I2, rfl, ⟨_, _, x, y, rfl, I.hok.fresh (Nat.le_refl _), I1.hok.fresh (Nat.le_refl _), rfl, fun l hl => by rw [I.list_inj hl hqx]; exact hx, fun l hl => by rw [I.list_inj hl hqy]; exact hy⟩, ⟨⟨.ref s.heap.objs.size, ?_⟩, ?_, ?_, ⟨u0, v0, ?_⟩, ?_, ?_⟩, fun c hcm => ?_⟩
      · have e1 : ((i + 1 : Nat) : Int) = (i : Int) + 1 := by omega
        rw [e1]; exact he'
      · obtain ⟨f0, bb, zp, r⟩ := zr1
        exact ⟨f0, bb, up _ _ ez.symm zp, r⟩
      · exact up _ _ (ne TI (by simp)).symm (gk _ _ D.TIz D.TITO D.TIi1 D.TIi2 ti)
      · exact up _ _ (ne TO (by simp)).symm to1
      · exact p11.at fun o q => up _ _ (ne i1 (by simp)).symm q
      · exact p21.at fun o q => up _ _ (ne i2 (by simp)).symm q
      · have lc := lt c hcm
        rw [upd_ne (Nat.ne_of_lt (show c < g.objs.size by rw [gs]; exact Nat.lt_succ_of_lt lc)), upd_ne (Nat.ne_of_lt lc)]
        exact (hf c hcm).1
  done := by
    intro X hP hw hK hc i pins s σ H E I hf st hg
    subst hP hw hK
    obtain ⟨⟨old, en⟩, zr, ti, ⟨x0, y0, to⟩, p1, p2⟩ := st
    obtain ⟨xs, ys, hqx, hqy, hend⟩ := hg
    obtain ⟨its, rv, pl1, _⟩ := I.list hqx
    obtain ⟨its2, rv2, pl2, _⟩ := I.list hqy
    have l1 := rv.length
    have l2 := rv2.length
    have he : its.toArray[i]? = none ∨ its2.toArray[i]? = none := by
      rcases hend with q | q
      · exact .inl (by simp; omega)
      · exact .inr (by simp; omega)
    refine pyNext_over_end (R := fun g => ∀ c o, c ≠ z → c ≠ TO → c ≠ i1 → c ≠ i2 → s.heap.get? c = some o → g.get? c = some o) en (fun Q' E' h => ?_) (fun g hk => ⟨rfl, I.turnedL (t' := s.toks) (ch := [e, z, TI, TO, i1, i2]) (fun c o hb q =>
      hk c o (fun q' => hb (by simp [q'])) (fun q' => hb (by simp [q'])) (fun q' => hb (by simp [q'])) (fun q' => hb (by simp [q'])) q) hf⟩)
    exact nextOf_zip_end (A := X.A.in1) (I.ok.hd hc) D zr ti to p1 p2 pl1.isList pl2.isList he fun g x hk ho => h g x hk ho
  self := fun A i s Q E st h => let ⟨_, he⟩ := st.en; wpAny_pyIter_enum he h
def iEnumZip (K : PySem.W.Frag) (ta : TA) : TI := fun σ H R => ta σ H fun vs H1 => ∃ a b xs ys, vs = [.ref a, .ref b] ∧ SqL K H1 a xs ∧ SqL K H1 b ys ∧ R (Itez K a b) H1
theorem pi_enumzip {X : Cx} {e e2 : Expr} {ta : TA} {p p2 pos pos2 tpos : Pos} {elts : List Expr} {kk : Nat} (hg0 : Gl X "enumerate") (hm0 : X.mg "enumerate" = none) (hg : Gl X "zip") (hm : X.mg "zip" = none) (ha : PA X [e, e2] ta)
    (hs : starEach [e, e2] X.env = (false, eval e X.env) :: starEach [e2] X.env := by rfl) (hpl : (backTo pos2 (starEach [e2] X.env)).any (·.1) = false := by rfl)
    (na : starEach [.Call (.Name "zip" p2) [e, e2] [] pos2] X.env = (false, eval (.Call (.Name "zip" p2) [e, e2] [] pos2) X.env) :: starEach [] X.env := by rfl) :
    PI X (.Tuple elts kk tpos) (.Call (.Name "enumerate" p) [.Call (.Name "zip" p2) [e, e2] [] pos2] [] pos) (iEnumZip X.K ta) := by
  refine ⟨fun pins s σ H R I h => ?_⟩
  refine Call_ (ld_blt I hg0 hm0 boot_enumerate (PyProof.Rows.callWith_type1 (args_cons (Call_ (ld_blt I hg hm PyProof.Rows.boot_zip (PyProof.Rows.callWith_type1 (thn (ha.run pos2 pins s σ H _ I h) fun us s1 ⟨vs, H1, I1, r1, q1⟩ => ?_) hs hpl))) na) na rfl))
  obtain ⟨a, b, xs, ys, ex, hqx, hqy, q⟩ := q1
  subst ex
  cases r1 with
  | cons r rr =>
    cases rr with
    | cons r' rr =>
      cases rr
      cases r
      cases r'
      obtain ⟨its, rv, p1, _⟩ := I1.list hqx
      obtain ⟨its2, rv2, p2, _⟩ := I1.list hqy
      refine call_zip_2 p1.isList p2.isList fun h' hz hTI hTO h1 h2 hsz hk => args_nil ?_
      refine call_enum_zip (s := { s1 with heap := h' }) hz fun g he gs gk => wpAny_pyIter_enum he ?_
      have I2 : Inv X pins σ H1 { s1 with heap := g } := I1.kept (t' := s1.toks) fun c o e => gk c o (hk c o e)
      have sz : h'.objs.size = s1.heap.objs.size + 5 := hsz
      refine ⟨h'.objs.size, [h'.objs.size, s1.heap.objs.size + 4, s1.heap.objs.size + 2, s1.heap.objs.size + 3, s1.heap.objs.size, s1.heap.objs.size + 1], _, _, H1, rfl, I2, turn_enumzip (PySem.W.ktu_apart s1.heap.objs.size a b p1.lt p2.lt) (fun c hc => ?_), ⟨⟨_, he⟩, ⟨_, _, gk _ _ hz, .inl rfl⟩, gk _ _ hTI, ⟨_, _, gk _ _ hTO⟩, h1.at fun o q => gk _ _ q, h2.at fun o q => gk _ _ q⟩, fun c hcm => ?_, q⟩
      · have e' : c = s1.heap.objs.size + 4 ∨ c = s1.heap.objs.size + 2 ∨ c = s1.heap.objs.size + 3 ∨ c = s1.heap.objs.size ∨ c = s1.heap.objs.size + 1 := by simpa using hc
        intro z
        have z' : h'.objs.size = c := z
        rcases e' with q | q | q | q | q <;> rw [q, sz] at z' <;> exact absurd z' (by omega)
      · have e' : c = h'.objs.size ∨ c = s1.heap.objs.size + 4 ∨ c = s1.heap.objs.size + 2 ∨ c = s1.heap.objs.size + 3 ∨ c = s1.heap.objs.size ∨ c = s1.heap.objs.size + 1 := by simpa using hcm
        have hle : s1.heap.objs.size ≤ c := by
          rcases e' with q | q | q | q | q | q <;> rw [q] <;> first | exact Nat.le_refl _ | exact Nat.le_add_right _ _ | (rw [sz]; exact Nat.le_add_right _ _)
        exact I1.fpOk hle (I1.hok.fresh hle)
section
variable {K : PySem.W.Frag} {H0 H H' : Hp} {T : List (Addr × Str)} {L L' L1 : List Cell} {a b : Addr} {xs ys : List V} {σ : L2.St} {s : TS} {D : Ends} {g : TG} {t : TA}
def ItEZ (K : PySem.W.Frag) (vs : List V) (H : Hp) (R : It → Hp → Prop) : Prop := ∃ a b xs ys, vs = [.ref a, .ref b] ∧ SqL K H a xs ∧ SqL K H b ys ∧ R (Itez K a b) H
theorem s_iEZ {R : It → Hp → Prop} (k : t σ H fun vs H1 => ItEZ K vs H1 R) : iEnumZip K t σ H R := k
theorem s_itEZ {R : It → Hp → Prop} (h1 : SqL K H a xs) (h2 : SqL K H b ys) (k : R (Itez K a b) H) : ItEZ K [.ref a, .ref b] H R := ⟨a, b, xs, ys, rfl, h1, h2, k⟩
/-- for i, (x, y) in enumerate(zip(xs, ys)): as far as the shorter one goes -/
theorem s_forEZ {k0 k1 k2 : Nat} (Pv : Nat → L2.St → List Cell → Prop) (xs ys : List V) (B : Own H0 H T L) (start : Pv 0 σ L) (stays : ∀ i σ L H, Pv i σ L → Own H0 H T L → SqL K H a xs ∧ SqL K H b ys)
    (turn : ∀ i x y σ L H, xs[i]? = some x → ys[i]? = some y → Pv i σ L → Own H0 H T L → s { D with nx := Inn H0 T (Pv (i + 1)), ct := Inn H0 T (Pv (i + 1)), bk := D.nx } (((σ.set k0 (some (.int (i : Int)))).set k1 (some x)).set k2 (some y)) H)
    (last : ∀ σ L H, Pv (min xs.length ys.length) σ L → Own H0 H T L → D.nx σ H) : ForG (Itez K a b) (gTup K 2 (gCons (gName k0) (gCons (gTup K 2 (gCons (gName k1) (gCons (gName k2) gNil))) gNil))) s D σ H := by
  refine ⟨fun i m σ H => m = min xs.length ys.length - i ∧ i ≤ min xs.length ys.length ∧ Inn H0 T (Pv i) σ H, ⟨_, rfl, Nat.zero_le _, L, start, B⟩, ?_⟩
  rintro i m σ H ⟨rfl, le, M, h, C⟩
  obtain ⟨s1, s2⟩ := stays i σ M H h C
  rcases Nat.lt_or_ge i (min xs.length ys.length) with lt | ge
  · have a1 : xs[i]? = some (xs[i]'(by omega)) := List.getElem?_eq_getElem (by omega)
    have a2 : ys[i]? = some (ys[i]'(by omega)) := List.getElem?_eq_getElem (by omega)
    refine Or.inr ⟨⟨xs, ys, _, _, s1, s2, a1, a2⟩, Inn H0 T (Pv (i + 1)), fun σ' H' p => ⟨_, by omega, rfl, lt, p⟩, ?_⟩
    rintro v H' ⟨t1, t2, x, y, rfl, n1, n2, rfl, f1, f2⟩
    have ne : t1 ≠ t2 := fun z => by rw [z, upd_same] at n2; cases n2
    refine ⟨t2, _, rfl, SqT.of upd_same, rfl, ?_⟩
    refine ⟨_, _, rfl, _, _, rfl, ⟨t1, [x, y], rfl, SqT.of (by rw [upd_ne ne, upd_same]), rfl, ?_⟩⟩
    refine ⟨_, _, rfl, _, _, rfl, rfl, ?_⟩
    refine ⟨rfl, ?_⟩
    exact turn i x y σ M _ (f1 xs s1) (f2 ys s2) h ((C.new (o := .tup [x, y]) n1 trivial).new (o := .tup [.int (i : Nat), .ref t1]) n2 trivial).tail.tail
  · have e : i = min xs.length ys.length := by omega
    subst e
    exact Or.inl ⟨⟨xs, ys, s1, s2, by omega⟩, last σ M H h C⟩
end
end My
namespace My
open PySem PySem.Spec PyProof.Rows L2 LamX
/-! min(rows, key=lambda row: row[0]), the rows lists -/
theorem first_callL {prog : Program} {w : World} {A : Around} {s : Shared} {f c' t : Addr} {q nm : Str} {params : Arguments} {scope : Scope} {pm ctv : Value} {p1 p2 p3 : Pos} {jj : Nat}
    {its : Array Value} {z : Int} {tz : Tok} (room : A.depth < recursionLimit) (nl : s.heap.NoLimit)
    (hf : s.heap.get? f = some (PySem.W.kla_obj "<lambda>" q params (.Subscript (.Name nm p1) (.Constant (.int 0) jj p2) p3) scope [] pm c' ctv))
    (hc : ∃ (oc : Obj) (vs : Array Value) (tq : Tok), s.heap.get? c' = some oc ∧ oc.data = .fields vs ∧ vs[1]? = some (.str q tq))
    (kk : scope.kind = .function) (k2 : scope.isCoroutine = false) (k3 : scope.isGenerator = false) (names : scope.names = [(nm, .local)])
    (hd : (nm == ("__debug__" : Str)) = false)
    (hbind : ∀ (q : Str) (cl : List (Str × Addr)) (pm cv ctv v : Value), bindArgs (PySem.W.kla_fn "<lambda>" q params (.Subscript (.Name nm p1) (.Constant (.int 0) jj p2) p3) scope cl pm cv ctv) ⟨[v], []⟩ = pure [(nm, v)])
    (ht : s.heap.IsList t its) (h0 : its[0]? = some (.int z tz)) {Q : Value → Shared → Prop} {E : Value → Shared → Prop}
    (fin : ∀ h' tk, s.toks ≤ tk → (∀ b o, s.heap.get? b = some o → h'.get? b = some o) → Q (.int z tz) { s with heap := h', toks := tk }) :
    wpAny (model prog w) A (call (.ref f) [.ref t]) Q E s := by
  obtain ⟨oc, vs, tq, c1, c2, c3⟩ := hc
  refine wpAny_call (PySem.W.kla_callFunE room hf rfl k2 k3 rfl ⟨c', oc, vs, tq, rfl, c1, c2, c3⟩ ?_)
  rw [hbind]
  refine wpAny_pure (wpAny_newFunctionEnv ?_ ?_ ?_ kk)
  · intro x hx z
    rw [names] at hx
    have e : x = (nm, .local) := by simpa using hx
    rw [e] at z
    cases z
  · intro x hx
    have e : x = (nm, .ref t) := by simpa using hx
    rw [e, names]
    simp
  intro h1 hns hsb
  have kp : ∀ b o, s.heap.get? b = some o → h1.get? b = some o := fun b o e => hsb.extBut b o (Nat.ne_of_lt (Heap.lt_size e)) (Heap.get?_push_of_some _ e)
  refine ⟨nl.fresh _ hsb, PySem.W.kla_codeExpr ?_⟩
  have look : ([(nm, Value.ref t)] : List (Str × Value)).reverse.lookup nm = some (.ref t) := by simp
  refine Subscript_ (wpAny_Name (wpAny_loadName_local kk (by show scope.names.lookup nm = some .local; rw [names]; simp) hns look ?_) hd)
  refine wpAny_Constant_int ?_
  have ht1 : h1.IsList t its := ht.at fun o e => kp t o e
  exact subscriptTail_builtinR (x := .int z tz) ht1.typeIs slot_list_getitem.lookup (wpAny_getItem_list (Q := fun r s' => r = .int z tz ∧ Q r s') ht1 (by decide) (by decide) h0 ⟨rfl, fin h1 _ (by show s.toks ≤ _; simp only []; omega) kp⟩)
theorem walkS_list {prog : Program} {w : World} {A : Around} (hh : A.handled = none) (I l : Addr) (hne : l ≠ I) (items : Array Value) :
    WalksS prog w A I [I, l] [I] Eq items.size (fun i v => items[i]? = some v) (fun i s => s.heap.IsListIter I l i ∧ s.heap.IsList l items) where
  sub := fun b hb => by simp at hb; simp [hb]
  grefl := fun _ => rfl
  gtrans := fun _ _ _ h1 h2 => h1.trans h2
  frame := fun _ _ _ _ st _ hk => ⟨st.1.at fun o e => hk I (by simp) o e, st.2.at fun o e => hk l (by simp) o e⟩
  item := fun i s Q E hi st hQ => wpAny_pyNext_list_item st.1 st.2 (x := items[i]) (by simp [hi]) fun h' it' sb =>
    hQ _ _ (by simp [hi]) ⟨it', st.2.extBut sb.extBut hne⟩ ⟨fun b o hb e => sb.extBut b o (fun z => hb (by simp [z])) e, rfl, rfl, rfl, Nat.le_refl _⟩
  done := fun s Q E st hQ => wpAny_pyNext_list_end hh st.1 st.2 (by simp) fun h' eb => hQ _ ⟨fun b o hb e => eb b o (fun z => hb (by simp [z])) e, rfl, rfl, rfl, Nat.le_refl _⟩
  self := fun i s Q E st h => wpAny_pyIter_listiter st.1 h
def tMnk (K : PySem.W.Frag) (T : List (Addr × Str)) (ta : TA) : TE := fun sg H Q => ta sg H fun vs H1 => ∃ (a : Addr) (xs : List V) (kf : V → Int), vs = [.ref a] ∧ SqL K H1 a xs ∧ Tabs T H1 ∧ 0 < xs.length ∧
  (∀ v ∈ xs, ∃ t r, v = .ref t ∧ H1 t = some (.lst (.int (kf v) :: r))) ∧ ∀ (v : V) (H2 : Hp), v ∈ xs → (∀ y ∈ xs, kf v ≤ kf y) → ExtN H1 H2 → Tabs T H2 → Q v H2
theorem pe_mnk {X : Cx} {T : List (Addr × Str)} {c P : Addr} {p pos kpos lpos : Pos} {e : Expr} {ta : TA} {params : Arguments} {scope : Scope} {nm : Str} {p1 p2 p3 : Pos} {jj : Nat}
    (hc : X.calm = true) (hg : Gl X "min") (hm : X.mg "min" = none) (ha : PA X [e] ta) (TB : TabB X.base X.mg c P) (hcode : X.env.code = .ref c)
    (hmem : (P, X.env.qual ++ "<lambda>") ∈ T) (hu : ∀ p ∈ T, p.1 = P → p.2 = X.env.qual ++ "<lambda>") (room : Room 2 X.A) (hdef : defaultsOf params X.env = ([], []))
    (kk : scope.kind = .function) (k2 : scope.isCoroutine = false) (k3 : scope.isGenerator = false) (names : scope.names = [(nm, .local)]) (hd : (nm == ("__debug__" : Str)) = false)
    (hbind : ∀ (q : Str) (cl : List (Str × Addr)) (pm cv ctv v : Value), bindArgs (PySem.W.kla_fn "<lambda>" q params (.Subscript (.Name nm p1) (.Constant (.int 0) jj p2) p3) scope cl pm cv ctv) ⟨[v], []⟩ = pure [(nm, v)])
    (he : backTo pos (starEach [e] X.env) = (false, eval e X.env) :: backTo pos (starEach [] X.env) := by rfl) (hpl : (backTo pos (starEach [e] X.env)).any (·.1) = false := by rfl)
    (hall : (backToKw pos (keywordEach [⟨some "key", .Lambda params (.Subscript (.Name nm p1) (.Constant (.int 0) jj p2) p3) scope lpos, kpos⟩] X.env)).all (·.1.isSome) = true := by rfl)
    (hnone : (backToKw pos (keywordEach [⟨some "key", .Lambda params (.Subscript (.Name nm p1) (.Constant (.int 0) jj p2) p3) scope lpos, kpos⟩] X.env)).any (·.1.isNone) = false := by rfl)
    (hks : (backToKw pos (keywordEach [⟨some "key", .Lambda params (.Subscript (.Name nm p1) (.Constant (.int 0) jj p2) p3) scope lpos, kpos⟩] X.env)).filterMap (·.1) = [Str.ofString "key"] := by rfl) :
    PE X (.Call (.Name "min" p) [e] [⟨some "key", .Lambda params (.Subscript (.Name nm p1) (.Constant (.int 0) jj p2) p3) scope lpos, kpos⟩] pos) (tMnk X.K T ta) := by
  refine ⟨fun pins s sg H Q I want => ?_⟩
  refine wpAny_Call_Name_kw (ld_blt I hg hm (by decide +kernel : bootBuiltins "min" = some (.builtin "min")) ?_)
  refine PyProof.Rows.callWith_kw (thn (ha.run pos pins s sg H _ I want) ?_) he hpl hall hnone
  rintro us s1 ⟨vs, H1, I1, rv, a, xs, kf, rfl, hq, hT, hpos, hrow, q⟩
  obtain ⟨u, rfl, ru⟩ := rv.one
  have ru' : u = Value.ref a := ru
  subst ru'
  rw [hks]
  show wpAny _ _ (evalAll ((do let v ← eval (.Lambda params (.Subscript (.Name nm p1) (.Constant (.int 0) jj p2) p3) scope lpos) X.env; standAt pos; pure v) :: [])) _ _ s1
  refine wpAny_evalAll_cons (wpAny_bind ?_)
  have nofree : ∀ y ∈ scope.names, y.2 = .free → ∃ c, X.env.cells.lookup y.1 = some c := by
    intro y hy z
    rw [names] at hy
    have ey : y = (nm, .local) := by simpa using hy
    rw [ey] at z
    cases z
  refine lam_make2 I1 TB hcode hmem hu hT hdef nofree ?_
  intro f c' pm ctv H2 s2 I2 ext T2 hf hfn hfr hco
  refine wpAny_bind (wpAny_standAt (wpAny_pure (wpAny_evalAll_nil ?_)))
  have noclo : cloFrom X.env.cells scope.names [] = [] := by rw [names]; rfl
  rw [noclo] at hf
  have keepL : SqL X.K H2 a xs := xsq ext hq
  have rowAt : ∀ v ∈ xs, ∃ t r, v = .ref t ∧ H2 t = some (.lst (.int (kf v) :: r)) := by
    intro v hv
    obtain ⟨t, r, e1, e2⟩ := hrow v hv
    exact ⟨t, r, e1, xlst ext e2⟩
  obtain ⟨its, rv2, pl, hz⟩ := I2.list keepL
  obtain ⟨⟨oc, ovs, tq, c1, c2, c3⟩, _, _⟩ := I2.hok c' _ hco
  have hlen : its.toArray.size = xs.length := by rw [List.size_toArray, ← rv2.length]
  have nf : ∀ b o, s2.heap.get? b = some o → b ≠ s2.heap.objs.size := fun b o e => Nat.ne_of_lt (Heap.lt_size e)
  have la : a ≠ s2.heap.objs.size := Nat.ne_of_lt pl.lt
  show wpAny _ _ (call (.builtin "min") [.ref a] [(Str.ofString "key", .ref f)]) _ _ s2
  refine call_min_walkK (wpAny_pyIter_list pl.isList ?_)
  refine ⟨s2.heap.objs.size, [s2.heap.objs.size, a], [s2.heap.objs.size], Eq, its.toArray.size, (fun i v => its.toArray[i]? = some v), (fun i s => s.heap.IsListIter s2.heap.objs.size a i ∧ s.heap.IsList a its.toArray),
    fun s' => ∃ h' tk, s' = { s2 with heap := h', toks := tk } ∧ s2.toks ≤ tk ∧ ∀ b o, s2.heap.get? b = some o → h'.get? b = some o, fun i k _ => ∃ t, k = .int (kf (xs.getD i .non)) t,
    fun i j => decide (kf (xs.getD i .non) < kf (xs.getD j .non)), rfl, walkS_list (A := X.A.in1) (I2.ok.hd hc) s2.heap.objs.size a la its.toArray, ⟨⟨_, Heap.get?_push_size _ rfl, rfl, rfl⟩, pl.isList.at fun o e => Heap.get?_push_of_some _ e⟩, ?_, by rw [hlen]; exact hpos, ?_, ⟨_, _, rfl, Nat.le_refl _, fun b o e => Heap.get?_push_of_some _ e⟩, ?_⟩
  · intro b hb
    have e' : b = s2.heap.objs.size ∨ b = a := by simpa using hb
    show b < (s2.heap.push _).objs.size
    rw [Heap.size_push]
    rcases e' with z | z <;> rw [z]
    · exact Nat.lt_succ_self _
    · exact Nat.lt_succ_of_lt pl.lt
  · refine ⟨?_, fun i k s s' h _ => h, ?_, ?_⟩
    · rintro s s' ⟨h', tk, rfl, hle, kp⟩ mv
      obtain ⟨mh, mg, md, mo, mt⟩ := mv
      refine ⟨s'.heap, s'.toks, ?_, Nat.le_trans hle mt, fun b o e => mh b o (fun z => ?_) (kp b o e)⟩
      · cases s'
        simp only [Shared.mk.injEq, true_and] at mg md mo ⊢
        exact ⟨mg.symm, md, mo⟩
      · have hlt := Heap.lt_size e
        have z' : b = (s2.heap.push { cls := .type "list_iterator", data := .fields #[.ref a, .int 0 0] }).objs.size ∨ b = s2.heap.objs.size := by simpa using z
        rw [Heap.size_push] at z'
        rcases z' with z | z
        · rw [z] at hlt; exact Nat.lt_irrefl _ (Nat.lt_trans (Nat.lt_succ_self _) hlt)
        · rw [z] at hlt; exact Nat.lt_irrefl _ hlt
    · rintro i v s o Q' E' hi hv ⟨h', tk, rfl, hle, kp⟩ hst hS fin
      have hv2 : its[i]? = some v := by simpa using hv
      have hil : i < xs.length := by rw [← hlen]; exact hi
      obtain ⟨x, hx, rx⟩ : ∃ x, xs[i]? = some x ∧ RelV x v := by
        refine ⟨xs[i], List.getElem?_eq_getElem hil, ?_⟩
        obtain ⟨u, hu, ru⟩ := rv2.get (List.getElem?_eq_getElem hil)
        rw [hv2] at hu
        cases hu
        exact ru
      obtain ⟨t, r, rfl, hrt⟩ := rowAt x (List.mem_of_getElem? hx)
      have ev : v = Value.ref t := rx
      subst ev
      obtain ⟨its2, rv3, pt, _⟩ := I2.list (SqL.of hrt)
      obtain ⟨u0, hu0, ru0⟩ := rv3.get (i := 0) rfl
      obtain ⟨tz, rfl⟩ := ru0
      refine first_callL (s := { s2 with heap := h', toks := tk }) ?_ (I2.nolimit.keeps kp) (kp _ _ hf) ⟨oc, ovs, tq, kp _ _ c1, c2, c3⟩ kk k2 k3 names hd hbind (its := its2.toArray) (z := kf (.ref t)) (tz := tz) (pt.isList.at fun o e => kp _ o e) (by simpa using hu0) fun g tk2 hle2 kp2 => ?_
      · have h1 := room.dp
        show X.A.in1.depth < recursionLimit
        have h2 : X.A.in1.depth = X.A.depth := rfl
        omega
      · refine fin _ _ ⟨g, tk2, rfl, Nat.le_trans hle hle2, fun b o e => kp2 b o (kp b o e)⟩ ?_ (kp2 _ _ hS) ⟨tz, ?_⟩ fun j k' h => h
        · exact ⟨hst.1.at fun o e => kp2 _ o e, hst.2.at fun o e => kp2 _ o e⟩
        · have e1 : xs.getD i .non = .ref t := by rw [List.getD_eq_getElem?_getD, hx]; rfl
          rw [e1]
    · rintro i j ki kj s Q' E' _ ⟨t1, rfl⟩ ⟨t2, rfl⟩ h
      exact wpAny_lt_int h
  · rintro v s' hv ⟨h', tk, rfl, hle, kp⟩
    obtain ⟨b1, b2⟩ := argBest_lt (fun i => kf (xs.getD i .non)) (its.toArray.size - 1)
    rw [hlen] at b1 b2 hv
    have hil : argBest (fun i j => decide (kf (xs.getD i .non) < kf (xs.getD j .non))) (xs.length - 1) < xs.length := by omega
    obtain ⟨x, hx, rx⟩ : ∃ x, xs[argBest (fun i j => decide (kf (xs.getD i .non) < kf (xs.getD j .non))) (xs.length - 1)]? = some x ∧ RelV x v := by
      refine ⟨_, List.getElem?_eq_getElem hil, ?_⟩
      obtain ⟨u, hu, ru⟩ := rv2.get (List.getElem?_eq_getElem hil)
      have hv2 : its[argBest (fun i j => decide (kf (xs.getD i .non) < kf (xs.getD j .non))) (xs.length - 1)]? = some v := by simpa using hv
      rw [hv2] at hu
      cases hu
      exact ru
    have I3 : Inv X pins sg H2 { s2 with heap := h', toks := tk } := I2.kept kp
    refine ⟨x, H2, I3, rx, q x H2 (List.mem_of_getElem? hx) (fun y hy => ?_) ext T2⟩
    obtain ⟨j, hj⟩ := List.mem_iff_getElem?.mp hy
    have hjl := (List.getElem?_eq_some_iff.mp hj).1
    have h1 := b2 j (by omega)
    have e1 : xs.getD j .non = y := by rw [List.getD_eq_getElem?_getD, hj]; rfl
    have e2 : xs.getD (argBest (fun i j => decide (kf (xs.getD i .non) < kf (xs.getD j .non))) (xs.length - 1)) .non = x := by rw [List.getD_eq_getElem?_getD, hx]; rfl
    rw [e1, e2] at h1
    exact h1
end My
namespace My
open PySem PySem.Spec PyProof.Rows L2 LamX
/-! over a tuple -/
section
variable {K : PySem.W.Frag} {H0 H H' : Hp} {T : List (Addr × Str)} {L L' : List Cell} {a p : Addr} {σ : L2.St} {Q : VK} {kx : Nat} {vs : List Nat} {tt : TT} {te : TE} {xs : List V} {g : TG} {s : TS} {D : Ends} {x y : V}
def ItT (K : PySem.W.Frag) (x : V) (H : Hp) (R : It → Hp → Prop) : Prop := ∃ a, x = .ref a ∧ (∃ xs, SqT K H a xs) ∧ R (Itt K a) H
theorem s_iTup {R : It → Hp → Prop} (k : te σ H fun x H1 => ItT K x H1 R) : iTup K te σ H R := k
theorem s_itT {R : It → Hp → Prop} (h : H a = some (.tup xs)) (k : R (Itt K a) H) : ItT K (.ref a) H R := ⟨a, rfl, ⟨_, SqT.of h⟩, k⟩
theorem s_forT (Pv : Nat → L2.St → List Cell → Prop) (xs : List V) (B : Own H0 H T L) (start : Pv 0 σ L) (stays : ∀ i σ L H, Pv i σ L → Own H0 H T L → SqT K H a xs)
    (turn : ∀ i x σ L H, xs[i]? = some x → Pv i σ L → Own H0 H T L → g x σ H fun σ2 H2 => s { D with nx := Inn H0 T (Pv (i + 1)), ct := Inn H0 T (Pv (i + 1)), bk := D.nx } σ2 H2)
    (last : ∀ σ L H, Pv xs.length σ L → Own H0 H T L → D.nx σ H) : ForG (Itt K a) g s D σ H :=
  for_tup (K := K) (a := a) (xs := xs) (fun i => Inn H0 T (Pv i)) ⟨L, start, B⟩ (fun i σ H _ ⟨L, h, B⟩ => stays i σ L H h B) (fun i x σ H hx ⟨L, h, B⟩ => turn i x σ L H hx h B) (fun σ H ⟨L, h, B⟩ => last σ L H h B)
theorem s_lcT (Pv : Nat → List V → List Cell → Prop) (xs : List V) (B : Own H0 H T L) (start : Pv 0 [] L) (stays : ∀ i acc L H, Pv i acc L → Own H0 H T L → SqT K H a xs)
    (wp : ∀ x : V, wipe ((wipe σ vs).set kx (some x)) vs = wipe σ vs)
    (turn : ∀ D i x acc L H, xs[i]? = some x → Pv i acc L → Own H0 H T (.ob D (.lst acc) :: L) → tt ((wipe σ vs).set kx (some x)) H fun b H3 =>
      if b = true then te ((wipe σ vs).set kx (some x)) H3 fun y H4 => ∃ acc, H4 D = some (.lst acc) ∧ acc.length < sizeLine ∧ NoEl H0 T D (Pv (i + 1)) (upd H4 D (.lst (acc ++ [y]))) else NoEl H0 T D (Pv (i + 1)) H3)
    (last : ∀ D acc L H, Pv xs.length acc L → Own H0 H T (.ob D (.lst acc) :: L) → Q (.ref D) H) : LcG (Itt K a) (gName kx) tt te vs σ Q H := fun D nD =>
  lc_tup (K := K) (a := a) (xs := xs) (fun i => NoEl H0 T D (Pv i)) ⟨[], L, B.new nD trivial, start⟩ (fun i H _ ⟨acc, L, B, h⟩ => stays i acc L H h B.tail)
    (fun i x H hx ⟨acc, L, B, h⟩ => ⟨wp x, turn D i x acc L H hx h B⟩) (fun H ⟨acc, L, B, h⟩ => last D acc L H h B)
/-- xs.pop() -/
theorem s_popE (B : Own H0 H T L) [P : Pull L a (.ob a (.lst xs)) L'] (h : xs[xs.length - 1]? = some y) (k : ∀ H', Own H0 H' T (.ob a (.lst xs.dropLast) :: L') → Q y H') : rPop (.ref a) [] H Q :=
  ⟨a, xs, y, rfl, rfl, B.get a, h, k _ ((B.pull a).wr trivial)⟩
end
/-! min(xs, default=d), the members ints -/
def tMnd (K : PySem.W.Frag) (d : Int) (ta : TA) : TE := fun sg H Q => ta sg H fun vs H1 => ∃ (a : Addr) (ns : List Int), vs = [.ref a] ∧ SqL K H1 a (ns.map V.int) ∧ (ns = [] → Q (.int d) H1) ∧ ∀ m ∈ ns, (∀ y ∈ ns, m ≤ y) → Q (.int m) H1
def MndAt (K : PySem.W.Frag) (d : Int) (vs : List V) (H1 : Hp) (Q : VK) : Prop := ∃ (a : Addr) (ns : List Int), vs = [.ref a] ∧ SqL K H1 a (ns.map V.int) ∧ (ns = [] → Q (.int d) H1) ∧ ∀ m ∈ ns, (∀ y ∈ ns, m ≤ y) → Q (.int m) H1
theorem s_mndS {K : PySem.W.Frag} {d : Int} {ta : TA} {sg : L2.St} {H : Hp} {Q : VK} (k : ta sg H fun vs H1 => MndAt K d vs H1 Q) : tMnd K d ta sg H Q := k
theorem s_mnd {K : PySem.W.Frag} {d : Int} {H : Hp} {Q : VK} {a : Addr} {ns : List Int} (h : H a = some (.lst (ns.map V.int))) (h0 : ns = [] → Q (.int d) H) (h1 : ∀ m ∈ ns, (∀ y ∈ ns, m ≤ y) → Q (.int m) H) : MndAt K d [.ref a] H Q := ⟨a, ns, rfl, SqL.of h, h0, h1⟩
theorem minI : ∀ (ns : List Int) (n : Int), ns.foldl min n ∈ n :: ns ∧ ∀ y ∈ n :: ns, ns.foldl min n ≤ y
  | [], n => ⟨List.mem_cons_self .., fun y hy => by rw [List.mem_singleton.mp hy]; exact Int.le_refl _⟩
  | k :: ns, n => by
    obtain ⟨h1, h2⟩ := minI ns (min n k)
    rw [List.foldl_cons]
    have hm := h2 (min n k) (List.mem_cons_self ..)
    refine ⟨?_, fun y hy => ?_⟩
    · rcases List.mem_cons.mp h1 with h | h
      · rcases Int.le_total n k with e | e
        · rw [h, Int.min_eq_left e]; exact List.mem_cons_self ..
        · rw [h, Int.min_eq_right e]; exact List.mem_cons_of_mem _ (List.mem_cons_self ..)
      · exact List.mem_cons_of_mem _ (List.mem_cons_of_mem _ h)
    · rcases List.mem_cons.mp hy with h | h
      · rw [h]; exact Int.le_trans hm (Int.min_le_left ..)
      · rcases List.mem_cons.mp h with h' | h'
        · rw [h']; exact Int.le_trans hm (Int.min_le_right ..)
        · exact h2 y (List.mem_cons_of_mem _ h')
theorem pe_mnd {X : Cx} {p pos kpos cpos : Pos} {e : Expr} {ta : TA} {d : Int} {kk : _}
    (hc : X.calm = true) (hg : Gl X "min") (hm : X.mg "min" = none) (ha : PA X [e] ta) (hun : X.A.units + 65 < cLine)
    (he : backTo pos (starEach [e] X.env) = (false, eval e X.env) :: backTo pos (starEach [] X.env) := by rfl) (hpl : (backTo pos (starEach [e] X.env)).any (·.1) = false := by rfl)
    (hall : (backToKw pos (keywordEach [⟨some "default", .Constant (.int d) kk cpos, kpos⟩] X.env)).all (·.1.isSome) = true := by rfl)
    (hnone : (backToKw pos (keywordEach [⟨some "default", .Constant (.int d) kk cpos, kpos⟩] X.env)).any (·.1.isNone) = false := by rfl)
    (hks : (backToKw pos (keywordEach [⟨some "default", .Constant (.int d) kk cpos, kpos⟩] X.env)).filterMap (·.1) = [Str.ofString "default"] := by rfl) :
    PE X (.Call (.Name "min" p) [e] [⟨some "default", .Constant (.int d) kk cpos, kpos⟩] pos) (tMnd X.K d ta) := by
  refine ⟨fun pins s sg H Q I want => ?_⟩
  refine wpAny_Call_Name_kw (ld_blt I hg hm (by decide +kernel : bootBuiltins "min" = some (.builtin "min")) ?_)
  refine PyProof.Rows.callWith_kw (thn (ha.run pos pins s sg H _ I want) ?_) he hpl hall hnone
  rintro us s1 ⟨vs, H1, I1, rv, a, ns, rfl, hq, q0, q1⟩
  obtain ⟨u, rfl, ru⟩ := rv.one
  have ru' : u = Value.ref a := ru
  subst ru'
  rw [hks]
  show wpAny _ _ (evalAll ((do let v ← eval (.Constant (.int d) kk cpos) X.env; standAt pos; pure v) :: [])) _ _ s1
  refine wpAny_evalAll_cons (wpAny_bind ?_)
  refine wpAny_Constant_int ?_
  refine wpAny_bind (wpAny_standAt (wpAny_pure (wpAny_evalAll_nil ?_)))
  have I2 : Inv X pins sg H1 { s1 with toks := s1.toks + 1 } := I1.tok _
  obtain ⟨its, rv2, pl, hz⟩ := I2.list hq
  obtain ⟨as, ra⟩ := Dp.readsAll I2 _ _ _ (dpAll_ints ns) rv2
  show wpAny _ _ (call (.builtin "min") [.ref a] [(Str.ofString "default", .int d s1.toks)]) _ _ _
  have hd := dep_ints ns
  refine PySem.W.min_list_default (vs := its.toArray) (xs := ns.map PyData.int) (as := as) (I2.ok.hd hc) pl.isList (by simpa using ra) ⟨fun x hx y hy => ?_, fun x hx => ?_⟩ (by omega) (fun hn h' tk kp => ?_) fun y ys i v h' tk bs e1 hv hr kp => ?_
  · obtain ⟨e1, _, rfl⟩ := List.mem_map.mp hx
    obtain ⟨e2, _, rfl⟩ := List.mem_map.mp hy
    simp [PySem.W.alike]
  · obtain ⟨e1, _, rfl⟩ := List.mem_map.mp hx
    exact fun z => nomatch z
  · have I3 : Inv X pins sg H1 { { s1 with toks := s1.toks + 1 } with heap := h', toks := tk } := I2.kept kp
    exact ⟨.int d, H1, I3, ⟨_, rfl⟩, q0 (List.map_eq_nil_iff.mp hn)⟩
  · have I3 : Inv X pins sg H1 { { s1 with toks := s1.toks + 1 } with heap := h', toks := tk } := I2.kept kp
    cases ns with
    | nil => cases e1
    | cons n ns =>
      rw [List.map_cons] at e1
      cases e1
      rw [PySem.W.minD_ints] at hr
      obtain ⟨m1, m2⟩ := minI ns n
      generalize ns.foldl min n = m at hr m1 m2
      refine ⟨.int m, H1, I3, ?_, q1 m m1 m2⟩
      cases hr
      exact ⟨_, rfl⟩
/-! xs.remove(x), x a member -/
abbrev W0 : WX := fun _ _ _ _ => False
theorem pe_rem {X : Cx} {o e : Expr} {to te : TE} {apos cpos : Pos} (hc : X.calm = true) (ho : PE X o to) (he : PE X e te) (hbase : attributeBase o "remove" X.env (eval o X.env) = eval o X.env := by rfl)
    (hfew : ((backTo cpos (starEach [e] X.env)).all (fun x => !x.1) && (backToKw cpos (keywordEach [] X.env)).all (fun x => x.1.isSome)
      && decide (([e] : List Expr).length + ([] : List Keyword).length + (if ([] : List Keyword).isEmpty then 0 else 1) < 30)) = true := by rfl)
    (hline : (apos.endLine == cpos.line) = true := by rfl) (hs : starEach [e] X.env = (false, eval e X.env) :: starEach [] X.env := by rfl) (hplain : (backTo cpos (starEach [] X.env)).any (·.1) = false := by rfl) :
    PE X (.Call (.Attribute o "remove" apos) [e] [] cpos) (tRemX X.K W0 to te) :=
  pe_remX hc (fun u s' ⟨a, B, sI, pins, σ, H, cls, d, e, I, nb, up, sky, na, os, ag, w⟩ => w.elim) ho he hbase hfew hline hs hplain
def RemAt (x y : V) (σ : L2.St) (H2 : Hp) (Q : VK) : Prop := ∃ (l : Addr) (ns : List Int) (k : Int), x = .ref l ∧ y = .int k ∧ H2 l = some (.lst (ns.map V.int)) ∧
  (k ∈ ns → Q .non (upd H2 l (.lst ((ns.erase k).map V.int)))) ∧ (k ∉ ns → ∀ d, W0 (.type "ValueError") d σ H2)
section
variable {K : PySem.W.Frag} {H0 H : Hp} {T : List (Addr × Str)} {L L' : List Cell} {a : Addr} {σ : L2.St} {Q : VK} {ns : List Int} {x : Int} {to te : TE}
theorem s_remS (k : to σ H fun x H1 => tyV K "list" x H1 ∧ te σ H1 fun y H2 => RemAt x y σ H2 Q) : tRemX K W0 to te σ H Q := k
theorem s_rem (B : Own H0 H T L) [P : Pull L a (.ob a (.lst (ns.map V.int))) L'] (hx : x ∈ ns) (k : ∀ H', Own H0 H' T (.ob a (.lst ((ns.erase x).map V.int)) :: L') → Q .non H') : RemAt (.ref a) (.int x) σ H Q :=
  ⟨a, ns, x, rfl, rfl, B.get a, fun _ => k _ ((B.pull a).wr trivial), fun h => absurd hx h⟩
end
/-! [x for q in family for x in q] -/
def Lc2G (J : It) (g : TG) (tt : TT) (wi1 : TI) (g1 : TG) (tt1 : TT) (te : TE) (vs vs1 : List Nat) (σ : L2.St) (Q : VK) (H1 : Hp) : Prop := ∀ D, H1 D = none → ∃ W : Nat → Nat → Hp → Prop, (∃ m, W 0 m (upd H1 D (.lst []))) ∧ ∀ i m H, W i m H →
  (J.stop i H ∧ Q (.ref D) H) ∨ (J.go i H ∧ ∃ Nx : Hp → Prop, (∀ H', Nx H' → ∃ m', m' < m ∧ W (i + 1) m' H') ∧ ∀ x H', J.yld i H x H' → g x (wipe σ vs) H' fun σ2 H2 => wipe σ2 vs = wipe σ vs ∧ tt σ2 H2 fun b H3 =>
    if b = true then wi1 σ2 H3 fun J1 H4 => ∃ W1 : Nat → Nat → Hp → Prop, (∃ m, W1 0 m H4) ∧ ∀ j k H, W1 j k H →
      (J1.stop j H ∧ Nx H) ∨ (J1.go j H ∧ ∃ Nx1 : Hp → Prop, (∀ H', Nx1 H' → ∃ k', k' < k ∧ W1 (j + 1) k' H') ∧ ∀ x H', J1.yld j H x H' → g1 x (wipe σ2 vs1) H' fun σ3 H5 => wipe σ3 vs1 = wipe σ2 vs1 ∧ tt1 σ3 H5 fun b H6 =>
        if b = true then te σ3 H6 fun y H7 => ∃ acc, H7 D = some (.lst acc) ∧ acc.length < sizeLine ∧ Nx1 (upd H7 D (.lst (acc ++ [y]))) else Nx1 H6)
    else Nx H3)
section
variable {K : PySem.W.Frag} {H0 H : Hp} {T : List (Addr × Str)} {L L' : List Cell} {p : Addr} {qs : List Addr} {fam : List (List Int)} {σ : L2.St} {Q : VK} {kq kx : Nat} {vs vs1 : List Nat} {wi wi1 : TI} {g g1 : TG} {tt tt1 : TT} {te : TE}
theorem s_lc2S (k : wi σ H fun J H1 => Lc2G J g tt wi1 g1 tt1 te vs vs1 σ Q H1) : tLc2 wi g tt wi1 g1 tt1 te vs vs1 σ H Q := k
theorem s_lcFlat (B : Own H0 H T L) (ft : ∀ H', Own H0 H' T L → H' p = some (.lst (qs.map V.ref))) (fr : ∀ H', Own H0 H' T L → Rws H' qs (vv fam)) (hlq : qs.length = fam.length) (hz : fam.flatten.length ≤ 100000)
    (wp : ∀ x : V, wipe ((wipe σ vs).set kq (some x)) vs = wipe σ vs) (gq : ∀ x : V, ((wipe σ vs).set kq (some x))[kq]? = some (some x))
    (wp1 : ∀ x y : V, wipe ((wipe ((wipe σ vs).set kq (some x)) vs1).set kx (some y)) vs1 = wipe ((wipe σ vs).set kq (some x)) vs1) (gx : ∀ x y : V, ((wipe ((wipe σ vs).set kq (some x)) vs1).set kx (some y))[kx]? = some (some y))
    (last : ∀ D H', Own H0 H' T (.ob D (.lst (fam.flatten.map V.int)) :: L) → Q (.ref D) H') : Lc2G (Itl K p) (gName kq) tYes (iList K (tVar kq)) (gName kx) tYes (tVar kx) vs vs1 σ Q H := by
  intro D nD
  refine ⟨fun i m H' => m = qs.length - i ∧ i ≤ qs.length ∧ Own H0 H' T (.ob D (.lst (((fam.take i).flatten).map V.int)) :: L), ⟨qs.length, rfl, Nat.zero_le _, B.new nD trivial⟩, ?_⟩
  rintro i m H' ⟨em, le, B⟩
  have top := ft _ B.tail
  rcases Nat.lt_or_ge i qs.length with lt | ge
  · have hq : qs[i]? = some qs[i] := List.getElem?_eq_getElem lt
    have ef : fam[i]? = some (fam[i]'(by omega)) := List.getElem?_eq_getElem _
    generalize fam[i]'(by omega) = f2 at ef
    have hf := (fr _ B.tail).get i _ _ hq (vv_get ef)
    refine Or.inr ⟨⟨_, .ref qs[i], SqL.of top, by rw [List.getElem?_map, hq]; rfl⟩, fun H' => Own H0 H' T (.ob D (.lst (((fam.take (i + 1)).flatten).map V.int)) :: L), fun H' e => ⟨qs.length - (i + 1), by omega, rfl, lt, e⟩, ?_⟩
    rintro x H' ⟨rfl, fx⟩
    have ex : x = .ref qs[i] := by
      have z := fx _ (SqL.of top)
      rw [List.getElem?_map, hq] at z
      exact (Option.some.inj z).symm
    subst ex
    refine ⟨wp _, iteT (B := Own H0 H' T (.ob D (.lst (((fam.take (i + 1)).flatten).map V.int)) :: L)) ?_⟩
    refine ⟨.ref qs[i], gq _, qs[i], rfl, ⟨_, SqL.of hf⟩, ?_⟩
    refine ⟨fun j k H' => k = f2.length - j ∧ j ≤ f2.length ∧ Own H0 H' T (.ob D (.lst (((fam.take i).flatten ++ f2.take j).map V.int)) :: L), ⟨f2.length, rfl, Nat.zero_le _, by rw [List.take_zero, List.append_nil]; exact B⟩, ?_⟩
    rintro j k H' ⟨ek, le2, B⟩
    have hf : H' qs[i] = some (.lst (f2.map V.int)) := (fr _ B.tail).get i _ _ hq (vv_get ef)
    rcases Nat.lt_or_ge j f2.length with lt2 | ge2
    · have hn : f2[j]? = some f2[j] := List.getElem?_eq_getElem lt2
      refine Or.inr ⟨⟨_, .int f2[j], SqL.of hf, by rw [List.getElem?_map, hn]; rfl⟩, fun H' => Own H0 H' T (.ob D (.lst (((fam.take i).flatten ++ f2.take (j + 1)).map V.int)) :: L), fun H' e => ⟨f2.length - (j + 1), by omega, rfl, lt2, e⟩, ?_⟩
      rintro y H' ⟨rfl, fy⟩
      have ey : y = .int f2[j] := by
        have z := fy _ (SqL.of hf)
        rw [List.getElem?_map, hn] at z
        exact (Option.some.inj z).symm
      subst ey
      refine ⟨wp1 _ _, iteT (B := Own H0 H' T (.ob D (.lst (((fam.take i).flatten ++ f2.take (j + 1)).map V.int)) :: L)) ?_⟩
      refine ⟨.int f2[j], gx _ _, _, B.get D, ?_, ?_⟩
      · have h1 := congrArg (fun z => z.flatten.length) (List.take_append_drop (i + 1) fam)
        simp only [List.flatten_append, List.length_append] at h1
        have h2 : (fam.take (i + 1)).flatten = (fam.take i).flatten ++ f2 := by rw [List.take_add_one, ef, List.flatten_append]; simp
        rw [h2, List.length_append] at h1
        rw [List.length_map, List.length_append, List.length_take]
        unfold sizeLine; omega
      · have e : ((fam.take i).flatten ++ f2.take j).map V.int ++ [V.int f2[j]] = ((fam.take i).flatten ++ f2.take (j + 1)).map V.int := by
          rw [List.take_add_one, hn, ← List.append_assoc, List.map_append (l₁ := (fam.take i).flatten ++ f2.take j)]; rfl
        rw [e]
        exact (B.wr trivial)
    · refine Or.inl ⟨⟨_, SqL.of hf, by rw [List.length_map]; exact ge2⟩, ?_⟩
      have h2 : (fam.take (i + 1)).flatten = (fam.take i).flatten ++ f2 := by rw [List.take_add_one, ef, List.flatten_append]; simp
      rw [h2]
      rw [List.take_of_length_le ge2] at B
      exact B
  · have e : i = qs.length := by omega
    subst e
    refine Or.inl ⟨⟨_, SqL.of top, by rw [List.length_map]; exact Nat.le_refl _⟩, ?_⟩
    have ef : fam.take qs.length = fam := List.take_of_length_le (by rw [hlq]; exact Nat.le_refl _)
    rw [ef] at B
    exact last D _ B
/-- [list(q) for q in family], the family only read -/
theorem s_lcCopyA (B : Own H0 H T L) (ft : ∀ H', Own H0 H' T L → H' p = some (.lst (qs.map V.ref))) (fr : ∀ H', Own H0 H' T L → Rws H' qs (vv fam)) (hlq : qs.length = fam.length) (hn : fam.length ≤ 100000) (wp : ∀ x : V, wipe ((wipe σ vs).set kx (some x)) vs = wipe σ vs) (wg : ∀ x : V, ((wipe σ vs).set kx (some x))[kx]? = some (some x))
    (last : ∀ c ls H, ls.length = fam.length → Own H0 H T (.fm c ls (vv fam) :: L) → Q (.ref c) H) :
    LcG (Itl K p) (gName kx) tYes (tCB (rLsK K) (tCons (tVar kx) tNil)) vs σ Q H := by
  have hl := hlq
  refine s_lcL (fun i acc M => ∃ ls : List Addr, ls.length = i ∧ acc = ls.map V.ref ∧ M = .rs ls (vv (fam.take i)) :: L) (qs.map V.ref) (Own.rs0 B) ⟨[], rfl, rfl, rfl⟩ ?_ wp ?_ ?_
  · rintro i acc M H ⟨ls, _, _, rfl⟩ B
    exact SqL.of (ft _ B.tail)
  · rintro Dc i x acc M H hx ⟨ls, hls, rfl, rfl⟩ B
    rw [List.getElem?_map] at hx
    obtain ⟨qq, hq, rfl⟩ := Option.map_eq_some_iff.mp hx
    have hi : i < fam.length := by rw [← hlq]; exact (List.getElem?_eq_some_iff.mp hq).1
    have ef : fam[i]? = some (fam[i]'hi) := List.getElem?_eq_getElem _
    generalize fam[i]'hi = f1 at ef
    have hf := (fr _ B.tail.tail).get i _ _ hq (vv_get ef)
    refine s_yes (iteT (s_cb (s_cons (s_var (wg _) (s_nil ?_)))))
    refine s_list B hf fun l H B => ?_
    have B2 : Own H0 H T (.rs (ls ++ [l]) (vv (fam.take i) ++ [f1.map V.int]) :: .ob Dc (.lst (ls.map V.ref)) :: L) := Own.pushR B.arr
    have e2 : vv (fam.take i) ++ [f1.map V.int] = vv (fam.take (i + 1)) := by rw [List.take_add_one, ef, vv_app]; rfl
    rw [e2] at B2
    refine s_el B2 ?_ ⟨ls ++ [l], by rw [List.length_append, hls]; rfl, by rw [List.map_append]; rfl, rfl⟩
    rw [List.length_map, hls]; unfold sizeLine; omega
  · rintro c acc M H ⟨ls, hls, rfl, rfl⟩ B
    have B := B.closeR
    rw [List.length_map, hl] at hls B
    rw [List.take_length] at B
    exact last c ls H hls B
end
end My
namespace My
open PySem PySem.Spec PyProof.Rows L2 LamX
section
variable {K : PySem.W.Frag} {H0 H : Hp} {T : List (Addr × Str)} {L L' : List Cell} {a : Addr} {σ : L2.St} {Q : VK} {xs : List V} {n : Nat}
/-- a, b = a list -/
theorem s_gu {t : TGs} {Qs : L2.St → Hp → Prop} (h : H a = some (.lst xs)) (hl : xs.length = n) (k : t xs σ H Qs) : gUnl K n t (.ref a) σ H Qs := ⟨a, xs, rfl, SqL.of h, hl, k⟩
theorem kit_tt : PySem.W.kitOne K (.type "tuple") (.type "tuple") = some true := kit_ty (by decide +kernel)
theorem s_isTup (h : H a = some (.tup xs)) (k : Q (.bl true) H) : rIsi K [.ref a, .ty "tuple"] H Q := ⟨.ref a, .ty "tuple", .type "tuple", .type "tuple", true, rfl, .ty _, .base (.tup h), kit_tt, k⟩
theorem s_lenT (h : H a = some (.tup xs)) (k : Q (.int (xs.length : Int)) H) : rLenK K [.ref a] H Q := ⟨a, xs, rfl, .inr (SqT.of h), k⟩
end
end My
namespace My
open PySem
/-! list(range(a, b)) beyond the small integers -/
theorem kinds_apart {S r : Addr} {h : Heap} {a b c : Int} {t u v : Tok} {xs : Array Value} {c₀ : Nat} (hr : IsRange h r a b c t u v) (hS : h.get? S = some { cls := .type "list", data := .seq xs c₀ }) : S ≠ r := fun e => by
  rw [e] at hS
  have z := congrArg (Option.map Obj.cls) ((show h.get? r = _ from hr).symm.trans hS)
  exact absurd (Value.type.inj (Option.some.inj z)) (by decide)
section
variable {prog : Program} {w : World} {A : Around} {s : Shared} {r : Addr} {a b c : Int} {t u v : Tok} {n : Nat}
theorem ext_long {R : Result → Shared → Prop} (hh : A.handled = none) (hr : IsRange s.heap r a b c t u v) (big : Builtin.Range.small a b c = false) (hn : Builtin.Range.rangeSize a b c = (n : Int)) (hz : n ≤ 2 ^ 24) (S : Addr) (res : Value) (c₀ : Nat)
    (hS : s.heap.get? S = some { cls := .type "list", data := .seq #[] c₀ })
    (k : ∀ (h' : Heap) (tk : Nat) (acc : Array Value) (c' : Nat), (∀ (x : Addr) (o : Obj), x ≠ S → s.heap.get? x = some o → h'.get? x = some o) → h'.get? S = some { cls := .type "list", data := .seq acc c' } →
      ItemsOf (fun i y => ∃ t, y = .int (a + i * c) t) acc n → R (.ok (.ret res)) { s with heap := h', toks := tk }) :
    wpAny (model prog w) A.in1 (Builtin.List.listExtendWith (.ref S) (.ref r) res) (fun fin s' => match fin with | .done f => R (.ok f) s' | .again c' => c'.quiet = true ∧ codeAny (model prog w) A c' R s') (fun e s' => R (.error e) s') s := by
  have hSr := kinds_apart hr hS
  have hSI : S ≠ s.heap.objs.size := Nat.ne_of_lt (Heap.lt_size hS)
  have W := Walks.toS (Walks.longrange (prog := prog) (w := w) (A := A.in1) hh s.heap.objs.size a c n)
  have go : ∀ (h : Heap) (c1 tk : Nat), IsLongIter h s.heap.objs.size (a + ((0 : Nat) : Int) * c) (n - ((0 : Nat) : Int)) c → (∀ (x : Addr) (o : Obj), x ≠ S → s.heap.get? x = some o → h.get? x = some o) → h.get? S = some { cls := .type "list", data := .seq #[] c1 } →
      codeAny (model prog w) A (.builtin "list.extend.loop" { pos := [.ref S, .ref s.heap.objs.size, res] }) R { s with heap := h, toks := tk } := by
    intro h c1 tk hit hk h1
    refine codeAny_extend_loopS W (by rw [sizeLine_eq]; exact hz) S (fun z => hSI (List.mem_singleton.mp z)) res n 0 _ #[] c1 rfl (Nat.zero_le n) hit h1 (ItemsOf.nil _) fun s' acc c' hm h2 hi => ?_
    rw [Moved.eq_with hm]
    refine k s'.heap s'.toks acc c' (fun x o nx e => hm.heap x o (fun z => ?_) (hk x o nx e)) h2 hi
    rcases List.mem_cons.mp z with z | z
    · exact nx z
    · have := Heap.lt_size e
      rw [List.mem_singleton.mp z] at this
      exact Nat.lt_irrefl _ this
  unfold Builtin.List.listExtendWith
  refine wpAny_bind (wpAny_typeOf ⟨_, hr, rfl⟩ ?_)
  have e1 : Builtin.List.listSameRef (.ref S) (.ref r) = false := by rw [Builtin.List.listSameRef.eq_1]; simp [hSr]
  rw [e1]
  rw [if_neg (by decide)]
  refine wpAny_bind (wpAny_pyIter_longrange hr big ?_)
  refine wpAny_bind (wpAny_holding (wpAny_hint_range (Heap.get?_push_of_some _ hr) hn hz ?_))
  have hit : IsLongIter (s.heap.push { cls := .type "longrange_iterator", data := .fields #[rawInt a, rawInt (Builtin.Range.rangeSize a b c), rawInt c] }) s.heap.objs.size (a + ((0 : Nat) : Int) * c) (n - ((0 : Nat) : Int)) c := by
    rw [hn, show a + ((0 : Nat) : Int) * c = a by simp, show (n : Int) - ((0 : Nat) : Int) = n by simp]
    exact Heap.get?_push_size _ rfl
  have hS1 := Heap.get?_push_of_some { cls := .type "longrange_iterator", data := .fields #[rawInt a, rawInt (Builtin.Range.rangeSize a b c), rawInt c] } hS
  refine wpAny_ite_split (fun _ => ?_) (fun _ => ?_)
  · refine wpAny_bind (wpAny_rule (wpAny_bind ?_))
    unfold Builtin.List.listTouch
    refine wpAny_bind (wpAny_updateSeq hS1 rfl ?_)
    have hS2 := Heap.get?_update_self (Obj.mapSeq fun x => x.push Value.none) hS1 rfl
    refine wpAny_updateSeq hS2 rfl ?_
    have hS3 := Heap.get?_update_self (Obj.mapSeq fun x => x.pop) hS2 rfl
    refine wpAny_pure ⟨plainId_quiet F.plain_extend_loop _, go _ _ _ ?_ (fun x o nx e => ?_) hS3⟩
    · exact (Heap.get?_update_other _ _ hSI).trans ((Heap.get?_update_other _ _ hSI).trans hit)
    · exact (Heap.get?_update_other _ _ (Ne.symm nx)).trans ((Heap.get?_update_other _ _ (Ne.symm nx)).trans (Heap.get?_push_of_some _ e))
  · exact wpAny_pure ⟨plainId_quiet F.plain_extend_loop _, go _ _ _ hit (fun x o _ e => Heap.get?_push_of_some _ e) hS1⟩
theorem init_long {R : Result → Shared → Prop} (hh : A.handled = none) (hr : IsRange s.heap r a b c t u v) (big : Builtin.Range.small a b c = false) (hn : Builtin.Range.rangeSize a b c = (n : Int)) (hz : n ≤ 2 ^ 24) (S : Addr)
    (hS : s.heap.get? S = some { cls := .type "list", data := .seq #[] })
    (k : ∀ (h' : Heap) (tk : Nat) (acc : Array Value) (c' : Nat), (∀ (x : Addr) (o : Obj), x ≠ S → s.heap.get? x = some o → h'.get? x = some o) → h'.get? S = some { cls := .type "list", data := .seq acc c' } →
      ItemsOf (fun i y => ∃ t, y = .int (a + i * c) t) acc n → R (.ok (.ret .none)) { s with heap := h', toks := tk }) :
    wpAny (model prog w) A.in1 (Builtin.«list.__init__» { pos := [.ref S, .ref r] }) (fun fin s' => match fin with | .done f => R (.ok f) s' | .again c' => c'.quiet = true ∧ codeAny (model prog w) A c' R s') (fun e s' => R (.error e) s') s := by
  have hSr := kinds_apart hr hS
  refine id (wpAny_bind (id (wpAny_bind (wpAny_seqItems hS rfl (wpAny_pure (id (wpAny_bind (wpAny_updateSeq hS rfl ?_ ?_ ?_))))))))
  rotate_left
  · rw [sizeLine_eq]; simp
  · rw [sizeLine_eq]; simp
  have hS2 := Heap.get?_update_self (Obj.mapSeq fun _ => #[]) hS rfl
  have oth : ∀ (x : Addr) (o : Obj), x ≠ S → s.heap.get? x = some o → (s.heap.update S (Obj.mapSeq fun _ => #[])).get? x = some o := fun x o nx e => (Heap.get?_update_other _ _ (Ne.symm nx)).trans e
  refine wpAny_bind (wpAny_letGo (ext_long hh (oth r _ (Ne.symm hSr) hr) big hn hz S .none _ hS2 fun h' tk acc c' hk h2 hi => ?_))
  exact k h' tk acc c' (fun x o nx e => hk x o nx (oth x o nx e)) h2 hi
theorem call_list_long {E : Value → Shared → Prop} {Q : Value → Shared → Prop} (hh : A.handled = none) (hr : IsRange s.heap r a b c t u v) (big : Builtin.Range.small a b c = false) (hn : Builtin.Range.rangeSize a b c = (n : Int)) (hz : n ≤ 2 ^ 24)
    (k : ∀ (h' : Heap) (tk : Nat) (acc : Array Value) (c' : Nat), (∀ (x : Addr) (o : Obj), s.heap.get? x = some o → h'.get? x = some o) → h'.get? s.heap.objs.size = some { cls := .type "list", data := .seq acc c' } →
      ItemsOf (fun i y => ∃ t, y = .int (a + i * c) t) acc n → Q (.ref s.heap.objs.size) { s with heap := h', toks := tk }) :
    wpAny (model prog w) A (call (.type "list") [.ref r]) Q E s := by
  refine callType_codes (Q₁ := fun obj s1 => obj = .ref s.heap.objs.size ∧ s1 = { s with heap := s.heap.push { cls := .type "list", data := .seq #[] } }) F.called_list (F.typeCall_list_1 (.ref r)) F.entry_list_init (code_list_new (.ref r) ⟨rfl, rfl⟩) (fun obj s1 h1 => ?_)
  obtain ⟨e1, e2⟩ := h1
  subst e1
  subst e2
  have hS := Heap.get?_push_size (o := ({ cls := .type "list", data := .seq #[] } : Obj)) s.heap rfl
  refine ⟨⟨_, hS, rfl⟩, F.args_list_init_2 _ _, init_long (A := A.in1) (R := wants (fun r s2 => r = .none ∧ Q (.ref s.heap.objs.size) s2) E) hh (Heap.get?_push_of_some _ hr) big hn hz _ hS fun h' tk acc c' hk h2 hi => ⟨rfl, k h' tk acc c' (fun x o e => hk x o (Nat.ne_of_lt (Heap.lt_size e)) (Heap.get?_push_of_some _ e)) h2 hi⟩⟩
end
open PySem.Spec PyProof.Rows L2
def rRng2 : List V → Hp → VK → Prop := fun vs H Q => ∃ i j, vs = [.int i, .int j] ∧ ∀ p, H p = none → Q (.ref p) (upd H p (.rng i j))
theorem cr_rng2 {X : Cx} : CallR X (.type "range") rRng2 := by
  intro pins s σ H vs us Q I r h
  obtain ⟨i, j, rfl, q⟩ := h
  obtain ⟨x, y, rfl, rx, ry⟩ := vals2 r
  obtain ⟨t1, rfl⟩ := rx
  obtain ⟨t2, rfl⟩ := ry
  refine call_range_2 ⟨.ref s.heap.objs.size, upd H s.heap.objs.size (.rng i j), I.laid (t' := _) (fun b o e => Heap.get?_push_of_some _ e) (Nat.le_refl _) ?_, rfl, q _ (I.hok.fresh (Nat.le_refl _))⟩
  exact ⟨_, _, _, Heap.get?_push_size _ rfl⟩
theorem rng_size (a b : Int) : Builtin.Range.rangeSize a b 1 = (((b - a).toNat : Nat) : Int) := by
  unfold Builtin.Range.rangeSize
  simp
  omega
def rListRg : List V → Hp → VK → Prop := fun xs H Q => ∃ (r : Addr) (a b : Int), xs = [.ref r] ∧ H r = some (.rng a b) ∧ (b - a).toNat ≤ 100000 ∧ ∀ l, H l = none → Q (.ref l) (upd H l (.lst ((List.range (b - a).toNat).map fun i : Nat => V.int (a + (i : Int)))))
theorem call_listRg {X : Cx} (hc : X.calm = true) : CallR X (.type "list") rListRg := by
  intro pins s σ H xs us Q I r h
  obtain ⟨ra, a, b, rfl, hr, hn, q⟩ := h
  obtain ⟨u, rfl, ru⟩ := vals1 r
  obtain rfl : u = Value.ref ra := ru
  obtain ⟨t1, t2, t3, ho⟩ := I.hok ra _ hr
  generalize hne : (b - a).toNat = n at hn q
  have esz : Builtin.Range.rangeSize a b 1 = ((n : Nat) : Int) := by rw [rng_size, hne]
  have fin : ∀ (h' : Heap) (tk : Nat) (acc : Array Value) (c' : Nat), (∀ (x : Addr) (o : Obj), s.heap.get? x = some o → h'.get? x = some o) → h'.get? s.heap.objs.size = some { cls := .type "list", data := .seq acc c' } →
      ItemsOf (fun i y => ∃ t, y = .int (a + i * 1) t) acc n → ∃ v H', L2.Inv X pins σ H' { s with heap := h', toks := tk } ∧ RelV v (Value.ref s.heap.objs.size) ∧ Q v H' := by
    intro h' tk acc' c' kp e hac
    have esz2 : acc'.toList.length = n := hac.1
    have rel : Vals ((List.range n).map fun i : Nat => V.int (a + (i : Int))) acc'.toList := by
      have z := vals_ix (P := fun i v => ∃ t, v = .int (a + (i : Int) * 1) t) (g := fun i : Nat => V.int (a + (i : Int))) (fun i v ⟨t, hv⟩ => ⟨t, by rw [hv, Int.mul_one]⟩) acc'.toList 0 fun j v hj => by
        rw [Nat.zero_add]
        exact hac.2 j v (by simpa using hj)
      rw [esz2] at z
      have e2 : (fun i : Nat => V.int (a + ((0 + i : Nat) : Int))) = fun i : Nat => V.int (a + (i : Int)) := by funext i; rw [Nat.zero_add]
      rw [e2] at z
      exact z
    have hz : ((List.range n).map fun i : Nat => V.int (a + (i : Int))).length ≤ sizeLine := by
      rw [List.length_map, List.length_range]
      unfold sizeLine; omega
    exact ⟨.ref s.heap.objs.size, _, I.laid (t' := tk) kp (Nat.le_refl _) (show ObjOk X.prog X.w _ h' _ (.lst _) from ⟨hz, acc'.toList, c', rel, by simpa using e⟩), rfl, q _ (I.hok.fresh (Nat.le_refl _))⟩
  cases big : Builtin.Range.small a b 1 with
  | true => exact call_list_range (I.ok.hd hc) (a := a) (b := b) (c := 1) (n := n) ho big esz (by omega) fin
  | false => exact call_list_long (I.ok.hd hc) (a := a) (b := b) (c := 1) (n := n) ho big esz (by omega) fin
section
variable {H0 H : Hp} {T : List (Addr × Str)} {L L' : List Cell} {r : Addr} {i j : Int} {Q : VK}
theorem s_rng2 (B : Own H0 H T L) (k : ∀ p H', Own H0 H' T (.ob p (.rng i j) :: L) → Q (.ref p) H') : rRng2 [.int i, .int j] H Q := ⟨i, j, rfl, fun p n => k p _ (B.new n trivial)⟩
theorem s_listRg (B : Own H0 H T L) [P : Pull L r (.ob r (.rng i j)) L'] (h : (j - i).toNat ≤ 100000) (k : ∀ p H', Own H0 H' T (.ob p (.lst (((List.range (j - i).toNat).map fun x : Nat => i + (x : Int)).map V.int)) :: L) → Q (.ref p) H') : rListRg [.ref r] H Q := by
  refine ⟨r, i, j, rfl, B.get r, h, fun p n => k p _ ?_⟩
  rw [List.map_map]
  exact B.new n trivial
end
/-! repr of an int -/
def rRepI : List V → Hp → VK → Prop := fun xs H Q => ∃ i : Int, xs = [.int i] ∧ i.natAbs.log2 < 1920 ∧ Q (.str (toString i)) H
theorem cr_repI {X : Cx} : CallR X (.builtin "repr") rRepI := SkE.call_repr_int
theorem s_repInt {H : Hp} {i : Int} {Q : VK} (h : i.natAbs < 2 ^ 200) (k : Q (.str (toString i)) H) : rRepI [.int i] H Q := by
  refine ⟨i, rfl, ?_, k⟩
  by_cases z : i.natAbs = 0
  · rw [z]; decide
  · exact (Nat.log2_lt z).mpr (Nat.lt_of_lt_of_le h (Nat.pow_le_pow_right (by decide) (by decide)))
end My
namespace My
open PySem PySem.Spec PyProof.Rows L2
/-! list(d.values()) -/
def tListVals (te : TE) : TE := fun σ H Q => te σ H fun x H1 => ∃ d kvs, x = .ref d ∧ H1 d = some (.dK kvs) ∧ ∀ l, H1 l = none → Q (.ref l) (upd H1 l (.lst (kvs.map (·.2))))
theorem kv_vals : ∀ {kvs : List (Key × V)} {vs : List (Key × Value)}, KV kvs vs → Vals (kvs.map (·.2)) (vs.map (·.2))
  | _, _, .nil => .nil
  | _, _, .cons h t => .cons h.2 (kv_vals t)
theorem pe_listVals {X : Cx} {e : Expr} {te : TE} {p apos cpos pos : Pos} (hg : Gl X "list") (hm : X.mg "list" = none) (hv : bootBuiltins "list" = some (.type "list")) (he : PE X e te) (hc : X.calm = true := by rfl)
    (hbase : attributeBase e "values" X.env (eval e X.env) = eval e X.env := by rfl) (hline : (apos.endLine == cpos.line) = true := by rfl)
    (hs : starEach [(Expr.Call (.Attribute e "values" apos) [] [] cpos)] X.env = (false, eval (.Call (.Attribute e "values" apos) [] [] cpos) X.env) :: starEach [] X.env := by rfl) :
    PE X (.Call (.Name "list" p) [.Call (.Attribute e "values" apos) [] [] cpos] [] pos) (tListVals te) := by
  refine ⟨fun pins s σ H Q I hq => Call_ (ld_blt I hg hm hv ?_)⟩
  refine PyProof.Rows.callWith_type1 (PyProof.Rows.args_cons (wpAny_Call_method hbase rfl hline F.plainAttrs_dict F.slot_dict_values F.type_dict_values (thn (he.run pins s σ H _ I hq) fun u s1 ⟨x, H1, I1, rx, d, kvs, ex, hd, q⟩ => ?_)) hs) hs rfl
  subst ex
  cases rx
  obtain ⟨hz, hs0, vs, kv, hdo⟩ := I1.hok d _ hd
  have lk := Paired.length kv
  obtain ⟨es, ep, hraw, hsz, hent⟩ := Heap.DictOf.raw hdo
  refine ⟨Heap.DictOf.typeIs hdo, Heap.MapOf.noDict (Heap.DictOf.mapOf hdo), ?_⟩
  refine method_meetsIn F.slot_dict_values F.entry_dict_values rfl (PySem.evalArgs_none ⟨rfl, Heap.DictOf.typeIs hdo, F.args_dict_values_1 (Value.ref d), _, meets_dict_values (mixKind X.prog X.w) d hs0, ⟨vs, hdo⟩, ?_⟩)
  refine PyProof.Rows.args_nil ?_
  have I2 : Inv X pins σ H1 { s1 with heap := s1.heap.push { cls := .type "dict_values", data := .fields #[.ref d] } } := I1.kept fun b o e => Heap.get?_push_of_some _ e
  have hview : (s1.heap.push { cls := .type "dict_values", data := .fields #[.ref d] }).IsValuesView s1.heap.objs.size d := ⟨_, Heap.get?_push_size _ rfl, rfl, rfl⟩
  obtain ⟨ob, ho1, ho2, ho3⟩ := hraw
  refine W.kdl_call (d := d) (KdlSrc.rawValues (es := es) (ep := ep)) (I1.ok.hd hc) ⟨hview, ob, Heap.get?_push_of_some _ ho1, ho2, ho3⟩ (by rw [hsz, ← lk]; exact hz) ?_
  intro h' tk acc c' kp e hac
  have rel : Vals (kvs.map (·.2)) acc.toList := by
    have ea : acc.toList = vs.map (·.2) := by
      refine List.ext_getElem? fun j => ?_
      rw [List.getElem?_map]
      rcases Nat.lt_or_ge j vs.length with h | h
      · have h1 : j < acc.size := by rw [hac.1, hsz]; exact h
        obtain ⟨hi, ev⟩ := hac.2 j acc[j] (by simp [h1])
        obtain ⟨_, e2⟩ := hent j hi vs[j].1 vs[j].2 (by rw [List.getElem?_eq_getElem h])
        rw [List.getElem?_eq_getElem h, Option.map_some, ← e2, ← ev]
        simp [h1]
      · have h1 : acc.size ≤ j := by rw [hac.1, hsz]; exact h
        rw [List.getElem?_eq_none h, Option.map_none]
        simp [h1]
    rw [ea]
    exact kv_vals kv
  have hl : (kvs.map (·.2)).length ≤ sizeLine := by rw [List.length_map]; exact hz
  exact ⟨.ref _, _, I2.laid (t' := tk) kp (Nat.le_refl _) (show ObjOk X.prog X.w _ h' _ (.lst _) from ⟨hl, acc.toList, c', rel, by simpa using e⟩), rfl, q _ (I2.hok.fresh (Nat.le_refl _))⟩
open LamX
section
variable {K : PySem.W.Frag} {H0 H : Hp} {T : List (Addr × Str)} {L L' M : List Cell} {a d : Addr} {kvs : List (Key × V)} {σ : L2.St} {Q : VK} {tt : TT} {te : TE} {v : V}
theorem s_dnew (B : Own H0 H T L) (k : ∀ p H', Own H0 H' T (.ob p (.dK []) :: L) → Q (.ref p) H') : tDNewK σ H Q := fun p n => k p _ (B.new n trivial)
def ValsAt (x : V) (H : Hp) (Q : VK) : Prop := ∃ d kvs, x = .ref d ∧ H d = some (.dK kvs) ∧ ∀ l, H l = none → Q (.ref l) (upd H l (.lst (kvs.map (·.2))))
theorem s_lvS (k : te σ H fun x H1 => ValsAt x H1 Q) : tListVals te σ H Q := k
theorem s_lv (B : Own H0 H T L) [P : Pull L d (.ob d (.dK kvs)) L'] (k : ∀ p H', Own H0 H' T (.ob p (.lst (kvs.map (·.2))) :: L) → Q (.ref p) H') : ValsAt (.ref d) H Q := ⟨d, kvs, rfl, B.get d, fun l n => k l _ (B.new n trivial)⟩
/-- d[x] = v -/
theorem s_setD {Qh : Hp → Prop} {x : Int} (B : Own H0 H T L) [P : Pull L a (.ob a (.dK kvs)) L'] (h : kvs.length < sizeLine) (k : ∀ H', Own H0 H' T (.ob a (.dK (putK kvs (.inl x) v)) :: L') → Qh H') : rSetD (.ref a) (.int x) v H Qh :=
  ⟨a, _, rfl, .inl ⟨kvs, .inl x, B.get a, rfl, h, rfl⟩, k _ ((B.pull a).wr trivial)⟩
/-- d.pop(x) -/
def DPopAt (x : V) (ty : TE) (σ : L2.St) (H1 : Hp) (Q : VK) : Prop := ∃ a, x = .ref a ∧ IsD H1 a ∧ ty σ H1 fun y H2 => ∃ kvs k v, H2 a = some (.dK kvs) ∧ y = kV k ∧ valV kvs k = some v ∧ Q v (upd H2 a (.dK (dropK kvs k)))
theorem s_dpopS {td ty : TE} (k : td σ H fun x H1 => DPopAt x ty σ H1 Q) : tDPop1 td ty σ H Q := k
theorem s_dpopT {ty : TE} (h : H a = some (.dK kvs)) (k : ty σ H fun y H2 => ∃ kvs k v, H2 a = some (.dK kvs) ∧ y = kV k ∧ valV kvs k = some v ∧ Q v (upd H2 a (.dK (dropK kvs k)))) : DPopAt (.ref a) ty σ H Q := ⟨a, rfl, .inl ⟨kvs, .inl h⟩, k⟩
theorem s_dpop {x : Int} (B : Own H0 H T L) [P : Pull L a (.ob a (.dK kvs)) L'] (h : valV kvs (.inl x) = some v) (k : ∀ H', Own H0 H' T (.ob a (.dK (dropK kvs (.inl x))) :: L') → Q v H') : ∃ kvs k v, H a = some (.dK kvs) ∧ V.int x = kV k ∧ valV kvs k = some v ∧ Q v (upd H a (.dK (dropK kvs k))) :=
  ⟨kvs, .inl x, v, B.get a, rfl, h, k _ ((B.pull a).wr trivial)⟩
/-- a dict that is locked: read -/
theorem s_dgetF {x : Int} {od : Obj} (h : H a = some (.frz od (.dK kvs))) (e : valV kvs (.inl x) = some v) (k : Q v H) : GetAt (.ref a) (.int x) H Q := ⟨a, v, rfl, .inl ⟨kvs, .inl x, .inr ⟨od, h⟩, rfl, e.symm⟩, k⟩
/-- [.. for k in d if ..], d locked while it runs -/
theorem lcK_core {i kx : Nat} {vs : List Nat} (Pv : Nat → List V → List Cell → Prop) (B : Own H0 H T L) (d : Addr) (P : L.Perm (.ob d (.dK kvs) :: L')) (hσ : σ[i]? = some (some (.ref d))) (start : Pv 0 [] L')
    (wp : ∀ x : V, wipe ((wipe σ vs).set kx (some x)) vs = wipe σ vs)
    (turn : ∀ od D j k v acc M H, kvs[j]? = some (k, v) → Pv j acc M → Own H0 H T (.ob D (.lst acc) :: .ob d (.frz od (.dK kvs)) :: M) → tt ((wipe σ vs).set kx (some (kV k))) H fun b H3 =>
      if b = true then te ((wipe σ vs).set kx (some (kV k))) H3 fun y H4 => ∃ acc, H4 D = some (.lst acc) ∧ acc.length < sizeLine ∧ NoEl H0 T D (fun acc N => ∃ M, N = .ob d (.frz od (.dK kvs)) :: M ∧ Pv (j + 1) acc M) (upd H4 D (.lst (acc ++ [y])))
      else NoEl H0 T D (fun acc N => ∃ M, N = .ob d (.frz od (.dK kvs)) :: M ∧ Pv (j + 1) acc M) H3)
    (last : ∀ D acc M H, Pv kvs.length acc M → Own H0 H T (.ob D (.lst acc) :: .ob d (.dK kvs) :: M) → Q (.ref D) H) (od : Obj) :
    tLc (iKeys (tVar i)) (gName kx) tt te vs σ (upd H d (.frz od (.dK kvs))) fun v H' => H' d = some (.frz od (.dK kvs)) ∧ Q v (upd H' d (.dK kvs)) := by
  have BF : Own H0 (upd H d (.frz od (.dK kvs))) T (.ob d (.frz od (.dK kvs)) :: L') := (B.perm P).wr trivial
  refine ⟨.ref d, hσ, d, od, rfl, .inl ⟨kvs, upd_same, ?_⟩⟩
  intro D nD
  refine ⟨fun j m H => m = kvs.length - j ∧ j ≤ kvs.length ∧ NoEl H0 T D (fun acc N => ∃ M, N = .ob d (.frz od (.dK kvs)) :: M ∧ Pv j acc M) H, ⟨kvs.length, rfl, Nat.zero_le _, [], _, BF.new nD trivial, L', rfl, start⟩, ?_⟩
  rintro j m H1 ⟨em, le, acc, N, B1, M, rfl, h⟩
  have fz : H1 d = some (.frz od (.dK kvs)) := B1.tail.head.1
  rcases Nat.lt_or_ge j kvs.length with lt | ge
  · refine Or.inr ⟨⟨fz, lt⟩, NoEl H0 T D (fun acc N => ∃ M, N = .ob d (.frz od (.dK kvs)) :: M ∧ Pv (j + 1) acc M), ?_, ?_⟩
    · intro H' p'
      exact ⟨kvs.length - (j + 1), by omega, rfl, lt, p'⟩
    · rintro x H' ⟨rfl, k, v, e1, rfl⟩
      exact ⟨wp _, turn od D j k v acc M _ e1 h B1⟩
  · have e : j = kvs.length := by omega
    subst e
    refine Or.inl ⟨⟨fz, Nat.le_refl _⟩, fz, ?_⟩
    have B2 : Own H0 H1 T (.ob d (.frz od (.dK kvs)) :: .ob D (.lst acc) :: M) := B1.perm (List.Perm.swap ..)
    have B3 : Own H0 (upd H1 d (.dK kvs)) T (.ob d (.dK kvs) :: .ob D (.lst acc) :: M) := B2.wr trivial
    exact last D acc M _ h (B3.perm (List.Perm.swap ..))
theorem s_lcK {i kx : Nat} {vs : List Nat} (Pv : Nat → List V → List Cell → Prop) (B : Own H0 H T L) (d : Addr) [P : Pull L d (.ob d (.dK kvs)) L'] (hσ : σ[i]? = some (some (.ref d))) (start : Pv 0 [] L')
    (wp : ∀ x : V, wipe ((wipe σ vs).set kx (some x)) vs = wipe σ vs)
    (turn : ∀ od D j k v acc M H, kvs[j]? = some (k, v) → Pv j acc M → Own H0 H T (.ob D (.lst acc) :: .ob d (.frz od (.dK kvs)) :: M) → tt ((wipe σ vs).set kx (some (kV k))) H fun b H3 =>
      if b = true then te ((wipe σ vs).set kx (some (kV k))) H3 fun y H4 => ∃ acc, H4 D = some (.lst acc) ∧ acc.length < sizeLine ∧ NoEl H0 T D (fun acc N => ∃ M, N = .ob d (.frz od (.dK kvs)) :: M ∧ Pv (j + 1) acc M) (upd H4 D (.lst (acc ++ [y])))
      else NoEl H0 T D (fun acc N => ∃ M, N = .ob d (.frz od (.dK kvs)) :: M ∧ Pv (j + 1) acc M) H3)
    (last : ∀ D acc M H, Pv kvs.length acc M → Own H0 H T (.ob D (.lst acc) :: .ob d (.dK kvs) :: M) → Q (.ref D) H) : tLockE (tLc (iKeys (tVar i)) (gName kx) tt te vs) σ H Q :=
  ⟨d, .dK kvs, B.get d, trivial, fun od => lcK_core Pv B d P.p hσ start wp turn last od⟩
/-- xs = [.. for k in d if ..] as a statement -/
theorem s_lcKS {i kx r : Nat} {vs : List Nat} {E : Ends} (Pv : Nat → List V → List Cell → Prop) (B : Own H0 H T L) (d : Addr) [P : Pull L d (.ob d (.dK kvs)) L'] (hσ : σ[i]? = some (some (.ref d))) (start : Pv 0 [] L')
    (wp : ∀ x : V, wipe ((wipe σ vs).set kx (some x)) vs = wipe σ vs)
    (turn : ∀ od D j k v acc M H, kvs[j]? = some (k, v) → Pv j acc M → Own H0 H T (.ob D (.lst acc) :: .ob d (.frz od (.dK kvs)) :: M) → tt ((wipe σ vs).set kx (some (kV k))) H fun b H3 =>
      if b = true then te ((wipe σ vs).set kx (some (kV k))) H3 fun y H4 => ∃ acc, H4 D = some (.lst acc) ∧ acc.length < sizeLine ∧ NoEl H0 T D (fun acc N => ∃ M, N = .ob d (.frz od (.dK kvs)) :: M ∧ Pv (j + 1) acc M) (upd H4 D (.lst (acc ++ [y])))
      else NoEl H0 T D (fun acc N => ∃ M, N = .ob d (.frz od (.dK kvs)) :: M ∧ Pv (j + 1) acc M) H3)
    (last : ∀ D acc M H, Pv kvs.length acc M → Own H0 H T (.ob D (.lst acc) :: .ob d (.dK kvs) :: M) → E.nx (σ.set r (some (.ref D))) H) : tLock (tAsg (tLc (iKeys (tVar i)) (gName kx) tt te vs) (gName r)) E σ H :=
  ⟨d, .dK kvs, B.get d, trivial, fun od => lcK_core (Q := fun v H => E.nx (σ.set r (some v)) H) Pv B d P.p hσ start wp turn last od⟩
/-- sorted([(i, j), ..]) -/
theorem s_sortP {xs : List V} {k : V → Int × Int} (B : Own H0 H T L) (h : SqL K H a xs) (ht : ∀ x ∈ xs, ∃ t, x = V.ref t ∧ H t = some (.tup [.int (k x).1, .int (k x).2]))
    (c : ∀ ys p H', ys.Perm xs → ys.Pairwise (fun x y => ¬ ((k y).1 < (k x).1 ∨ ((k y).1 = (k x).1 ∧ (k y).2 < (k x).2))) → Own H0 H' T (.ob p (.lst ys) :: L) → Q (.ref p) H') : rSortedPO K [.ref a] H Q := by
  refine ⟨a, xs, k, rfl, h, ht, fun ys p h1 h2 n => c ys p _ h2.perm (h1.imp fun {x y} e => ?_) (B.new n trivial)⟩
  intro z
  have e2 : SrtO.lexB (k y) (k x) = false := e
  unfold SrtO.lexB at e2
  split at e2
  · have := of_decide_eq_false e2; omega
  · have := of_decide_eq_false e2; omega
end
end My
namespace My
open PySem PySem.Spec PyProof.Rows L2
/-! dict([(k, v), ..]) -/
def rDictP : List V → Hp → VK → Prop := fun xs H Q => ∃ (a : Addr) (ts : List Addr) (kvs : List (Key × V)), xs = [.ref a] ∧ H a = some (.lst (ts.map V.ref)) ∧ ts.length = kvs.length ∧
  (∀ (j : Nat) (t : Addr) (p : Key × V), ts[j]? = some t → kvs[j]? = some p → H t = some (.tup [kV p.1, p.2])) ∧ kvs.length ≤ 100000 ∧ ∀ l, H l = none → Q (.ref l) (upd H l (.dK (mergeK [] kvs)))
theorem pairs_mk {h : Heap} : ∀ {ts : List Addr} {kvs : List (Key × V)}, ts.length = kvs.length → (∀ (j : Nat) (t : Addr) (p : Key × V), ts[j]? = some t → kvs[j]? = some p → ∃ k v, keyIs p.1 k = true ∧ RelV p.2 v ∧ PairAt h t k v) →
    ∃ (ps : List (Value × Value)) (rs : List (Key × Value)), ps.length = kvs.length ∧ rs.length = kvs.length ∧ KV kvs rs ∧ (∀ (j : Nat) (t : Addr) (k v : Value), ts[j]? = some t → ps[j]? = some (k, v) → PairAt h t k v) ∧ ∀ (j : Nat) (k v : Value), ps[j]? = some (k, v) → ∃ q, rs[j]? = some (q, v) ∧ keyIs q k = true
  | [], [], _, _ => ⟨[], [], rfl, rfl, .nil, (fun j t k v h1 => by simp at h1), fun j k v h1 => by simp at h1⟩
  | t :: ts, p :: kvs, hl, hp => by
    obtain ⟨ps, rs, l1, l2, kv, h1, h2⟩ := pairs_mk (h := h) (ts := ts) (kvs := kvs) (by simpa using hl) fun j t p a b => hp (j + 1) t p a b
    obtain ⟨k, v, e1, e2, e3⟩ := hp 0 t p rfl rfl
    refine ⟨(k, v) :: ps, (p.1, v) :: rs, by simp [l1], by simp [l2], .cons ⟨rfl, e2⟩ kv, fun j t' k' v' a b => ?_, fun j k' v' b => ?_⟩
    · cases j with
      | zero => cases a; cases b; exact e3
      | succ j => exact h1 j t' k' v' a b
    · cases j with
      | zero => cases b; exact ⟨p.1, rfl, e1⟩
      | succ j => exact h2 j k' v' b
theorem cr_dictP {X : Cx} (hc : X.calm = true) : CallR X (.type "dict") rDictP := by
  intro pins s σ H xs us Q I r h
  obtain ⟨a, ts, kvs, rfl, ha, hl, hp, hz, q⟩ := h
  obtain ⟨u, rfl, ru⟩ := vals1 r
  obtain rfl : u = Value.ref a := ru
  obtain ⟨_, its, c', rel, e⟩ := I.hok a _ ha
  obtain ⟨ps, rs, l1, l2, kv, h1, h2⟩ := pairs_mk (h := s.heap) hl fun j t p e1 e2 => by
    obtain ⟨_, us, rt, et⟩ := I.hok t _ (hp j t p e1 e2)
    obtain ⟨x, y, rfl, rx, ry⟩ := vals2 rt
    exact ⟨x, y, kV_is (P := X.prog) (w := X.w) rx, ry, .inl et⟩
  have eits : its = ts.map Value.ref := by
    have go : ∀ (ts : List Addr) (its : List Value), Vals (ts.map V.ref) its → its = ts.map Value.ref := by
      intro ts
      induction ts with
      | nil => intro its h; cases h; rfl
      | cons t ts ih =>
        intro its h
        cases h with
        | cons h1 h2 => rw [ih _ h2, show _ = Value.ref t from h1]; rfl
    exact go ts its rel
  have hit : PairItems s.heap its.toArray (fun j => ts.getD j 0) ps := by
    refine ⟨by rw [eits, List.size_toArray, List.length_map, hl, l1], fun j k v hj => ?_⟩
    have hjl : j < ts.length := by have := (List.getElem?_eq_some_iff.mp hj).1; omega
    have ht : ts[j]? = some (ts.getD j 0) := by rw [List.getD_eq_getElem?_getD, List.getElem?_eq_getElem hjl]; rfl
    refine ⟨?_, h1 j _ k v ht hj⟩
    rw [eits, List.getElem?_toArray, List.getElem?_map, ht]; rfl
  refine call_dict_pairs (knd := mixKind X.prog X.w) (kvs := rs) (PairArg.list a its.toArray (fun j => ts.getD j 0) ps) (I.ok.hd hc) ⟨⟨_, _, e, rfl, rfl, rfl⟩, hit⟩ ⟨by rw [l1, l2], fun i key v hi => h2 i key v hi⟩ (by rw [l1, sizeLine_eq]; omega) fun h' tk hd hk => ?_
  have I2 : Inv X pins σ (upd H s.heap.objs.size (.dK (mergeK [] kvs))) { s with heap := h', toks := tk } := I.laid (t' := tk) (fun b o e => hk b o (fun z => nomatch z) e) (Nat.le_refl _) (dk_new (by
    have := length_mergeK kvs []
    rw [List.length_nil] at this
    rw [sizeLine_eq]; omega) (beq_eq_false_iff_ne.mpr (Nat.ne_of_gt I.big)) (kv.merge .nil) hd)
  exact ⟨.ref _, _, I2, rfl, q _ (I.hok.fresh (Nat.le_refl _))⟩
theorem merge_nd : ∀ {more kvs : List (Key × V)}, ((kvs ++ more).map (·.1)).Nodup → mergeK kvs more = kvs ++ more
  | [], kvs, _ => (List.append_nil kvs).symm
  | p :: r, kvs, nd => by
    have hn : valV kvs p.1 = none := by
      unfold valV
      rw [Option.map_eq_none_iff, List.find?_eq_none]
      intro x hx e
      rw [List.map_append, List.map_cons] at nd
      exact (List.nodup_append.mp nd).2.2 x.1 (List.mem_map_of_mem hx) p.1 (List.mem_cons_self ..) (by simpa using e)
    show mergeK (putK kvs p.1 p.2) r = _
    rw [putK_new _ hn, merge_nd (by rw [List.append_assoc]; exact nd), List.append_assoc]; rfl
section
variable {H0 H : Hp} {T : List (Addr × Str)} {L : List Cell} {a : Addr} {ts : List Addr} {kvs : List (Key × V)} {Q : VK}
theorem s_dictP (B : Own H0 H T L) (ha : H a = some (.lst (ts.map V.ref))) (hl : ts.length = kvs.length) (hp : ∀ (j : Nat) (t : Addr) (p : Key × V), ts[j]? = some t → kvs[j]? = some p → H t = some (.tup [kV p.1, p.2])) (hz : kvs.length ≤ 100000) (nd : (kvs.map (·.1)).Nodup)
    (k : ∀ d H', Own H0 H' T (.ob d (.dK kvs) :: L) → Q (.ref d) H') : rDictP [.ref a] H Q := by
  refine ⟨a, ts, kvs, rfl, ha, hl, hp, hz, fun l n => ?_⟩
  rw [merge_nd (kvs := []) (more := kvs) nd]
  exact k l _ (B.new n trivial)
end
end My
namespace My
open PySem PySem.Spec PyProof.Rows L2
/-! sorted(set(xs)), xs a list of ints of any length -/
section
variable {P : Program} {w : World} {A : Around} {E : Value → Shared → Prop} {s : Shared}
theorem srt_set {a : Addr} {S : Int → Bool} {m : Nat} {Qv : Value → Shared → Prop} (R : SetR w s.heap a S m) (calm : A.handled = none)
    (fin : ∀ (t : Shared) (p : Addr) (ys : Array Value) (cap : Nat) (js : List Int), (∀ b u, s.heap.get? b = some u → t.heap.get? b = some u) → t.gens = s.gens → t.os = s.os → s.heap.objs.size ≤ p →
      t.heap.get? p = some (seqObj "list" ys cap) → IntsAre ys.toList js → js.Pairwise (· < ·) → (∀ x, x ∈ js ↔ S x = true) → Qv (.ref p) t) : wpAny (model P w) A (call (.builtin "sorted") [.ref a]) Qv E s := by
  obtain ⟨ob, tab, epo, pl, h1, h2, h3, good, uniq, mem, small, fits, size, rises, led⟩ := R
  refine Calls.call_function_entry kind_sorted plain_sorted entry_sorted (args_sorted1 _) (by
    unfold Builtin.«sorted»
    refine wpAny_bind (m := checkCount "sorted" 1 1 _) (wpAny_pure (wpAny_bind (collect_set (A := A.in1) calm ⟨ob, h1, h2.1, h3⟩ fits small rises led fun t1 us keep1 up1 gn1 os1 per => ?_)))
    have len1 : us.length = m := by rw [per.length_eq, List.length_map, Array.length_toList]; exact size
    have isI : IntsAre us (us.map Builtin.Re.reRawOf) := ints_of us fun u hu => by
      obtain ⟨e0, m0, q0⟩ := List.mem_map.mp (per.mem_iff.mp hu)
      obtain ⟨k0, t0, z0, _⟩ := good e0 m0
      exact ⟨k0, t0, q0 ▸ z0⟩
    have perK : (us.map Builtin.Re.reRawOf).Perm (tab.toList.map keyOf) := by have z := per.map Builtin.Re.reRawOf; rw [List.map_map] at z; exact z
    have lim : us.length ≤ sizeLine := by rw [len1, ← size, sizeLine_eq]; unfold scanBound at small; omega
    refine wpAny_bind (wpAny_newList ?_ lim)
    have hL : (t1.heap.push (seqObj "list" us.toArray 0)).get? t1.heap.objs.size = some (seqObj "list" us.toArray 0) := Heap.get?_push_size _ rfl
    refine wpAny_bind (wpAny_holding (wpAny_call_entry slot_list_sort ⟨_, hL, rfl⟩ entry_list_sort (list_sort_treeAny hL isI lim fun ys js z1 z2 z3 => ⟨_, rfl, ?_⟩) (args_list_sort _)))
    obtain ⟨cap, hcap⟩ := sortedHeap_at (vs := us) (out := ys) hL
    have perJ : js.Perm (tab.toList.map keyOf) := z2.trans perK
    refine wpAny_pure ⟨_, rfl, fin _ t1.heap.objs.size ys cap js (fun b u e => ?_) gn1 os1 up1 hcap z1 (lt_of_le_nodup js z3 (perJ.nodup_iff.mpr uniq)) fun x => by rw [perJ.mem_iff, ← mem x]⟩
    have q1 := keep1 b u e
    have below := Heap.lt_size q1
    show (sortedHeap (t1.heap.push (seqObj "list" us.toArray 0)) t1.heap.objs.size us ys).get? b = some u
    rw [sortedHeap_old (Nat.ne_of_lt below) (by rw [size_push']; exact Nat.lt_succ_of_lt below)]
    exact Heap.get?_push_of_some _ q1)
end
/-- sorted(set(xs)) as one step -/
def tSrtSet (K : PySem.W.Frag) (ta : TE) : TE := fun sg H Q => ta sg H fun x H1 => ∃ (l : Addr) (ns : List Int), x = .ref l ∧ SqL K H1 l (ns.map V.int) ∧ ns.length ≤ 4000 ∧ ∀ (js : List Int) (p : Addr), js.Pairwise (· < ·) → (∀ y, y ∈ js ↔ y ∈ ns) → H1 p = none → Q (.ref p) (upd H1 p (.lst (js.map V.int)))
theorem pe_srtSet {X : Cx} {a : Expr} {ta : TE} {p p2 q pos : Pos} (hg : Gl X "sorted") (hm : X.mg "sorted" = none) (hg2 : Gl X "set") (hm2 : X.mg "set" = none) (bs : bootBuiltins "sorted" = some (.builtin "sorted")) (ha : PE X a ta) (hc : X.calm = true := by rfl)
    (na : starEach [a] X.env = (false, eval a X.env) :: starEach [] X.env := by rfl) : PE X (.Call (.Name "sorted" p) [.Call (.Name "set" p2) [a] [] q] [] pos) (tSrtSet X.K ta) := by
  refine ⟨fun pins s sg H Q I h => Call_ (ld_blt I hg hm bs ?_)⟩
  refine PyProof.Rows.callWith_builtin1 (PyProof.Rows.args_cons (Call_ (ld_blt I hg2 hm2 boot_set ?_)) rfl) rfl rfl
  refine PyProof.Rows.callWith_type1 (PyProof.Rows.args_cons (thn (ha.run pins s sg H _ I h) fun v s1 ⟨x, H1, I1, r1, q1⟩ => PyProof.Rows.args_nil ?_) na) na rfl
  obtain ⟨l, ns, rfl, hq, hl, q1⟩ := q1
  cases r1
  obtain ⟨its, r, pl, hz⟩ := I1.list hq
  refine call_setL ns (I1.ok.hd hc) pl.isList (by simpa using r.ints) (by unfold scanBound; omega) fun s2 hF => PyProof.Rows.args_nil ?_
  obtain ⟨h', tk, c, es, hS0, hcl, kp⟩ := hF
  have hS : SetR X.w s2.heap s1.heap.objs.size (fun j => decide (j ∈ ns)) c := by rw [es]; exact hS0
  have I2 : Inv X pins sg H1 s2 := by rw [es]; exact I1.kept fun b o e => kp b o e
  refine srt_set hS (I2.ok.hd hc) fun s' p ys cap js k gn os up hp hi hs hm => ?_
  have hlen : (js.map V.int).length ≤ sizeLine := by
    have nd : js.Nodup := hs.imp fun z => by omega
    have sub : ∀ y ∈ js, y ∈ ns := fun y hy => of_decide_eq_true ((hm y).mp hy)
    have := List.Nodup.length_le_of_subset nd sub
    rw [List.length_map, sizeLine_eq]; omega
  have free : H1 p = none := I2.hok.fresh up
  have J : Inv X pins sg (upd H1 p (.lst (js.map V.int))) { s2 with heap := s'.heap, gens := s'.gens, drawn := s'.drawn, toks := s'.toks } :=
    I2.call (ch := []) (Un.laid k up free) (I2.hok.laid k up ⟨hlen, ys.toList, cap, vals_of_ints hi, hp⟩) (by rw [gn]; exact I2.bare) (fun _ z => nomatch z)
  have e : s' = { s2 with heap := s'.heap, gens := s'.gens, drawn := s'.drawn, toks := s'.toks } := by
    cases s'; cases s2; cases os; rfl
  rw [e]
  exact ⟨.ref p, _, J, rfl, q1 js p hs (fun y => (hm y).trans decide_eq_true_iff) free⟩
end My
namespace My
open PySem PySem.Spec PyProof.Rows L2
/-! x in ys, x a list or a tuple -/
def rInDeep (K : PySem.W.Frag) (neg : Bool) : R2 := fun x y H Q => ∃ (d : PyData) (ds : List PyData), Dp K H x d ∧ Dp K H y (.list ds) ∧ d.plain = true ∧ PyData.plainAll ds = true ∧ d.depth ≤ 40 ∧ Q (.bl (if neg then !(ds.any fun z => PyData.eqv z d) else ds.any fun z => PyData.eqv z d)) H
theorem op_inDeep {X : Cx} (hu : X.A.units + 64 < cLine) : OpR X (compareOp .In) (rInDeep X.K false) := by
  intro pins s σ H x y v u Q I rx ry h
  obtain ⟨d, ds, hd, he, pd, pe, dd, q⟩ := h
  obtain ⟨as, r1⟩ := Dp.reads I d x v hd rx
  obtain ⟨bs, r2⟩ := Dp.reads I (.list ds) y u he ry
  exact SeqAt.in_list_data r2 r1 pe pd (by have := Nat.min_le_right (PyData.depthAll ds) d.depth; omega) ⟨.bl _, H, I, rfl, q⟩
theorem op_ninDeep {X : Cx} (hu : X.A.units + 64 < cLine) : OpR X (compareOp .NotIn) (rInDeep X.K true) := by
  intro pins s σ H x y v u Q I rx ry h
  obtain ⟨d, ds, hd, he, pd, pe, dd, q⟩ := h
  obtain ⟨as, r1⟩ := Dp.reads I d x v hd rx
  obtain ⟨bs, r2⟩ := Dp.reads I (.list ds) y u he ry
  exact SeqAt.notIn_list_data r2 r1 pe pd (by have := Nat.min_le_right (PyData.depthAll ds) d.depth; omega) ⟨.bl _, H, I, rfl, q⟩
theorem plain_I (ns : List Int) : (dI ns).plain = true := by
  unfold dI
  simp only [PyData.plain]
  induction ns with
  | nil => rfl
  | cons n ns ih => simp only [List.map_cons, PyData.plainAll, PyData.plain, ih, Bool.and_true]
theorem plain_R (fam : List (List Int)) : PyData.plainAll (fam.map dI) = true := by
  induction fam with
  | nil => rfl
  | cons f fam ih => simp only [List.map_cons, PyData.plainAll, plain_I, ih, Bool.and_true]
section
variable {K : PySem.W.Frag} {H : Hp} {a p : Addr} {qs : List Addr} {ns : List Int} {fam : List (List Int)} {Q : VK}
theorem s_inF (h : H a = some (.lst (ns.map V.int))) (ht : H p = some (.lst (qs.map V.ref))) (hr : Rws H qs (vv fam)) (k : Q (.bl (decide (ns ∈ fam))) H) : rInDeep K false (.ref a) (.ref p) H Q := by
  refine ⟨dI ns, fam.map dI, dpI (SqL.of h), dpR ht hr, plain_I ns, plain_R fam, Nat.le_trans (dI_depth ns) (by decide), ?_⟩
  have e : ((fam.map dI).any fun z => PyData.eqv z (dI ns)) = decide (ns ∈ fam) := by
    rw [List.any_map, Bool.eq_iff_iff, List.any_eq_true, decide_eq_true_iff]
    constructor
    · rintro ⟨f, hf, h⟩
      have h : PyData.eqv (dI f) (dI ns) = true := h
      rw [eqv_II] at h
      exact of_decide_eq_true h ▸ hf
    · intro hf
      exact ⟨ns, hf, by show PyData.eqv (dI ns) (dI ns) = true; rw [eqv_II]; exact decide_eq_true rfl⟩
  show Q (.bl ((fam.map dI).any fun z => PyData.eqv z (dI ns))) H
  rw [e]
  exact k
end
end My
namespace My
open PySem PySem.Spec PyProof.Rows L2 LamX
/-! for x, y, z in zip(xs, ys, zs) over three lists -/
def Itz3 (K : PySem.W.Frag) (a b c : Addr) : It :=
  ⟨fun i H => ∃ (xs ys zs : List V) (x y z : V), SqL K H a xs ∧ SqL K H b ys ∧ SqL K H c zs ∧ xs[i]? = some x ∧ ys[i]? = some y ∧ zs[i]? = some z,
    fun i H v H' => ∃ T x y z, v = .ref T ∧ H T = none ∧ H' = upd H T (.tup [x, y, z]) ∧ (∀ xs, SqL K H a xs → xs[i]? = some x) ∧ (∀ ys, SqL K H b ys → ys[i]? = some y) ∧ ∀ zs, SqL K H c zs → zs[i]? = some z,
    fun i H => ∃ xs ys zs : List V, SqL K H a xs ∧ SqL K H b ys ∧ SqL K H c zs ∧ i = min (min xs.length ys.length) zs.length⟩
theorem turn_zip3 {P : Program} {w : World} {K : PySem.W.Frag} {elts : List Expr} {kk : Nat} {tpos : Pos} {N a b c : Addr} (ha : a < N) (hb : b < N) (hc : c < N) :
    Turn P w K (.Tuple elts kk tpos) (Itz3 K a b c) [N + 5, N + 3, N + 4, N, N + 1, N + 2] (N + 5) (fun i h => IsZip h (N + 5) (N + 3) (N + 4) .none ∧ IsTupOf3 h (N + 3) (.ref N) (.ref (N + 1)) (.ref (N + 2)) ∧ (∃ u v x, IsTupOf3 h (N + 4) u v x) ∧ h.IsListIter N a i ∧ h.IsListIter (N + 1) b i ∧ h.IsListIter (N + 2) c i) where
  mem := by simp
  obj := fun i h st q hq => by
    obtain ⟨hz, hTI, ⟨u, v, x, hTO⟩, ⟨o1, e1, _, d1⟩, ⟨o2, e2, _, d2⟩, ⟨o3, e3, _, d3⟩⟩ := st
    have e' : q = N + 5 ∨ q = N + 3 ∨ q = N + 4 ∨ q = N ∨ q = N + 1 ∨ q = N + 2 := by simpa using hq
    rcases e' with r | r | r | r | r | r
    · rw [r]; exact ⟨_, hz, fun v q => nomatch q⟩
    · rw [r]; exact ⟨_, hTI, fun v q => nomatch q⟩
    · rw [r]; exact ⟨_, hTO, fun v q => nomatch q⟩
    · rw [r]; exact ⟨o1, e1, fun v q => by rw [d1] at q; cases q⟩
    · rw [r]; exact ⟨o2, e2, fun v q => by rw [d2] at q; cases q⟩
    · rw [r]; exact ⟨o3, e3, fun v q => by rw [d3] at q; cases q⟩
  keep := fun i h h' st k => by
    obtain ⟨hz, hTI, ⟨u, v, x, hTO⟩, h1, h2, h3⟩ := st
    exact ⟨k _ (by simp) _ hz, k _ (by simp) _ hTI, ⟨u, v, x, k _ (by simp) _ hTO⟩, h1.at fun o q => k N (by simp) o q, h2.at fun o q => k (N + 1) (by simp) o q, h3.at fun o q => k (N + 2) (by simp) o q⟩
  item := by
    intro X hP hw hK hcm i pins s σ H E I hf st hg
    subst hP hw hK
    obtain ⟨hz, hTI, hTO, h1, h2, h3⟩ := st
    obtain ⟨xs, ys, zs, x, y, z, qx, qy, qz, hx, hy, hzz⟩ := hg
    obtain ⟨ix, rx, px, _⟩ := I.list qx
    obtain ⟨iy, ry, py, _⟩ := I.list qy
    obtain ⟨iz, rz, pz, _⟩ := I.list qz
    obtain ⟨ux, hux, vx⟩ := rx.get hx
    obtain ⟨uy, huy, vy⟩ := ry.get hy
    obtain ⟨uz, huz, vz⟩ := rz.get hzz
    have hh : X.A.in1.handled = none := I.ok.hd hcm
    have sep := zip_sep3 (N := N) (fp1 := [a]) (fp2 := [b]) (fp3 := [c]) (fun q hq => by rw [List.mem_singleton.mp hq]; exact ha) (fun q hq => by rw [List.mem_singleton.mp hq]; exact hb) (fun q hq => by rw [List.mem_singleton.mp hq]; exact hc)
    have G := GoesN.zip3 (prog := X.prog) (w := X.w) (A := X.A) (elts := elts) (x1 := kk) (pos := tpos) sep (Draws.list hh N a (Nat.ne_of_lt ha) ix.toArray) (Draws.list hh (N + 1) b (by have : b < N := hb; exact Nat.ne_of_lt (Nat.lt_succ_of_lt this)) iy.toArray) (Draws.list hh (N + 2) c (by have : c < N := hc; exact Nat.ne_of_lt (Nat.lt_succ_of_lt (Nat.lt_succ_of_lt this))) iz.toArray)
    have i1 : i < ix.length := (List.getElem?_eq_some_iff.mp hux).1
    have i2 : i < iy.length := (List.getElem?_eq_some_iff.mp huy).1
    have i3 : i < iz.length := (List.getElem?_eq_some_iff.mp huz).1
    refine wpAny_mono (G.goes i s (fun u s2 => ∃ x H', Inv X pins σ H' s2 ∧ RelV x u ∧ (Itz3 X.K a b c).yld i H x H' ∧ (IsZip s2.heap (N + 5) (N + 3) (N + 4) .none ∧ IsTupOf3 s2.heap (N + 3) (.ref N) (.ref (N + 1)) (.ref (N + 2)) ∧ (∃ u v x, IsTupOf3 s2.heap (N + 4) u v x) ∧ s2.heap.IsListIter N a (i + 1) ∧ s2.heap.IsListIter (N + 1) b (i + 1) ∧ s2.heap.IsListIter (N + 2) c (i + 1)) ∧ ∀ q ∈ [N + 5, N + 3, N + 4, N, N + 1, N + 2], H' q = none) E (by simp only [List.size_toArray]; omega)
      ⟨hz, hTI, hTO, ⟨h1, px.isList⟩, ⟨h2, py.isList⟩, ⟨h3, pz.isList⟩⟩ ?_) (fun r s1 h => h) fun _ _ e => e
    rintro v h' tk ⟨T, x1, y1, z1, rfl, hT, ex, ey, ez, tT⟩ ⟨hz', hTI', hTO', ⟨h1', _⟩, ⟨h2', _⟩, ⟨h3', _⟩⟩ keep htk
    have ex1 : x1 = ux := by rw [List.getElem?_toArray, hux] at ex; exact (Option.some.inj ex).symm
    have ey1 : y1 = uy := by rw [List.getElem?_toArray, huy] at ey; exact (Option.some.inj ey).symm
    have ez1 : z1 = uz := by rw [List.getElem?_toArray, huz] at ez; exact (Option.some.inj ez).symm
    subst ex1 ey1 ez1
    have new : ObjOk X.prog X.w (upd H T (.tup [x, y, z])) h' T (.tup [x, y, z]) := ⟨by show 3 ≤ sizeLine; decide, [x1, y1, z1], .cons vx (.cons vy (.cons vz .nil)), tT⟩
    have I1 : Inv X pins σ (upd H T (.tup [x, y, z])) { s with heap := h', toks := tk } :=
      I.turnedNew (ch := [N + 5, N + 3, N + 4, N, N + 1, N + 2]) (fun q o hb e => keep q o (fun z => hb (by
        have : q = N + 5 ∨ q = N + 4 ∨ q = N ∨ q = N + 1 ∨ q = N + 2 := by simpa using z
        rcases this with r | r | r | r | r <;> rw [r] <;> simp)) e) hf hT new
    refine ⟨.ref T, _, I1, rfl, ⟨T, x, y, z, rfl, I.hok.fresh hT, rfl, fun l hl => by rw [I.list_inj hl qx]; exact hx, fun l hl => by rw [I.list_inj hl qy]; exact hy, fun l hl => by rw [I.list_inj hl qz]; exact hzz⟩, ⟨hz', hTI', hTO', h1', h2', h3'⟩, fun q hq => ?_⟩
    have hlt : q < s.heap.objs.size := by
      obtain ⟨o1, e1, _⟩ := h1
      obtain ⟨o2, e2, _⟩ := h2
      obtain ⟨o3, e3, _⟩ := h3
      obtain ⟨_, _, _, e4⟩ := hTO
      have e' : q = N + 5 ∨ q = N + 3 ∨ q = N + 4 ∨ q = N ∨ q = N + 1 ∨ q = N + 2 := by simpa using hq
      rcases e' with r | r | r | r | r | r
      · rw [r]; exact Heap.lt_size hz
      · rw [r]; exact Heap.lt_size hTI
      · rw [r]; exact Heap.lt_size e4
      · rw [r]; exact Heap.lt_size e1
      · rw [r]; exact Heap.lt_size e2
      · rw [r]; exact Heap.lt_size e3
    rw [upd_ne (Nat.ne_of_lt (Nat.lt_of_lt_of_le hlt hT))]
    exact (hf q hq).1
  done := by
    intro X hP hw hK hcm i pins s σ H E I hf st hg
    subst hP hw hK
    obtain ⟨hz, hTI, hTO, h1, h2, h3⟩ := st
    obtain ⟨xs, ys, zs, qx, qy, qz, hend⟩ := hg
    obtain ⟨ix, rx, px, _⟩ := I.list qx
    obtain ⟨iy, ry, py, _⟩ := I.list qy
    obtain ⟨iz, rz, pz, _⟩ := I.list qz
    have hh : X.A.in1.handled = none := I.ok.hd hcm
    have sep := zip_sep3 (N := N) (fp1 := [a]) (fp2 := [b]) (fp3 := [c]) (fun q hq => by rw [List.mem_singleton.mp hq]; exact ha) (fun q hq => by rw [List.mem_singleton.mp hq]; exact hb) (fun q hq => by rw [List.mem_singleton.mp hq]; exact hc)
    have G := GoesN.zip3 (prog := X.prog) (w := X.w) (A := X.A) (elts := elts) (x1 := kk) (pos := tpos) sep (Draws.list hh N a (Nat.ne_of_lt ha) ix.toArray) (Draws.list hh (N + 1) b (by have : b < N := hb; exact Nat.ne_of_lt (Nat.lt_succ_of_lt this)) iy.toArray) (Draws.list hh (N + 2) c (by have : c < N := hc; exact Nat.ne_of_lt (Nat.lt_succ_of_lt (Nat.lt_succ_of_lt this))) iz.toArray)
    have en : i = min (min ix.toArray.size iy.toArray.size) iz.toArray.size := by
      simp only [List.size_toArray]
      rw [← rx.length, ← ry.length, ← rz.length]; exact hend
    subst en
    refine G.stops s (fun s1 => Inv X pins σ H s1) E ⟨hz, hTI, hTO, ⟨h1, px.isList⟩, ⟨h2, py.isList⟩, ⟨h3, pz.isList⟩⟩ fun h' tk keep htk => ?_
    exact I.turnedL (ch := [N + 5, N + 3, N + 4, N, N + 1, N + 2]) (fun q o hb e => keep q o (fun z => hb (by
        have : q = N + 5 ∨ q = N + 4 ∨ q = N ∨ q = N + 1 ∨ q = N + 2 := by simpa using z
        rcases this with r | r | r | r | r <;> rw [r] <;> simp)) e) hf
  self := fun A i s Q E st h => wpAny_pyIter_zip st.1 h
def iZip3 (K : PySem.W.Frag) (ta : TA) : TI := fun σ H R => ta σ H fun vs H1 => ∃ a b c xs ys zs, vs = [.ref a, .ref b, .ref c] ∧ SqL K H1 a xs ∧ SqL K H1 b ys ∧ SqL K H1 c zs ∧ R (Itz3 K a b c) H1
theorem pi_zip3 {X : Cx} {e e2 e3 : Expr} {ta : TA} {p pos tpos : Pos} {elts : List Expr} {kk : Nat} (hg : Gl X "zip") (hm : X.mg "zip" = none) (ha : PA X [e, e2, e3] ta)
    (hs : starEach [e, e2, e3] X.env = (false, eval e X.env) :: starEach [e2, e3] X.env := by rfl) (hpl : (backTo pos (starEach [e2, e3] X.env)).any (·.1) = false := by rfl) :
    PI X (.Tuple elts kk tpos) (.Call (.Name "zip" p) [e, e2, e3] [] pos) (iZip3 X.K ta) := by
  refine ⟨fun pins s σ H R I h => ?_⟩
  refine Call_ (ld_blt I hg hm PyProof.Rows.boot_zip (PyProof.Rows.callWith_type1 (thn (ha.run pos pins s σ H _ I h) fun us s1 ⟨vs, H1, I1, r1, q1⟩ => ?_) hs hpl))
  obtain ⟨a, b, c, xs, ys, zs, rfl, qx, qy, qz, q⟩ := q1
  obtain ⟨u1, r2, rfl, v1, r1⟩ : ∃ u r, us = u :: r ∧ RelV (.ref a) u ∧ Vals [.ref b, .ref c] r := by cases r1 with | cons h t => exact ⟨_, _, rfl, h, t⟩
  obtain ⟨u2, u3, rfl, v2, v3⟩ := vals2 r1
  cases v1; cases v2; cases v3
  obtain ⟨ix, rx, px, _⟩ := I1.list qx
  obtain ⟨iy, ry, py, _⟩ := I1.list qy
  obtain ⟨iz, rz, pz, _⟩ := I1.list qz
  refine zip_begins3 (begins_list a ix.toArray) (begins_list b iy.toArray) (begins_list c iz.toArray) px.isList py.isList pz.isList fun h' hz hTI hTO g1 g2 g3 hsz hk => wpAny_pyIter_zip hz ?_
  have I2 : Inv X pins σ H1 { s1 with heap := h' } := I1.kept (t' := s1.toks) hk
  refine ⟨s1.heap.objs.size + 5, [s1.heap.objs.size + 5, s1.heap.objs.size + 3, s1.heap.objs.size + 4, s1.heap.objs.size, s1.heap.objs.size + 1, s1.heap.objs.size + 2], _, _, H1, rfl, I2, turn_zip3 px.lt py.lt pz.lt, ⟨hz, hTI, ⟨_, _, _, hTO⟩, ⟨_, g1, rfl, rfl⟩, ⟨_, g2, rfl, rfl⟩, ⟨_, g3, rfl, rfl⟩⟩, fun q hq => ?_, q⟩
  have e' : q = s1.heap.objs.size + 5 ∨ q = s1.heap.objs.size + 3 ∨ q = s1.heap.objs.size + 4 ∨ q = s1.heap.objs.size ∨ q = s1.heap.objs.size + 1 ∨ q = s1.heap.objs.size + 2 := by simpa using hq
  have hle : s1.heap.objs.size ≤ q := by
    rcases e' with z | z | z | z | z | z
    · rw [z]; exact Nat.le_add_right _ _
    · rw [z]; exact Nat.le_add_right _ _
    · rw [z]; exact Nat.le_add_right _ _
    · rw [z]; exact Nat.le_refl _
    · rw [z]; exact Nat.le_add_right _ _
    · rw [z]; exact Nat.le_add_right _ _
  exact I1.fpOk hle (I1.hok.fresh hle)
section
variable {K : PySem.W.Frag} {H0 H : Hp} {T : List (Addr × Str)} {L : List Cell} {a b c : Addr} {xs ys zs : List V} {σ : L2.St} {ta : TA} {k1 k2 k3 : Nat} {s : TS} {D : Ends}
def ItZ3 (K : PySem.W.Frag) (vs : List V) (H1 : Hp) (R : It → Hp → Prop) : Prop := ∃ a b c xs ys zs, vs = [.ref a, .ref b, .ref c] ∧ SqL K H1 a xs ∧ SqL K H1 b ys ∧ SqL K H1 c zs ∧ R (Itz3 K a b c) H1
theorem s_iZip3 {R : It → Hp → Prop} (k : ta σ H fun vs H1 => ItZ3 K vs H1 R) : iZip3 K ta σ H R := k
theorem s_itZ3 {R : It → Hp → Prop} (h1 : SqL K H a xs) (h2 : SqL K H b ys) (h3 : SqL K H c zs) (k : R (Itz3 K a b c) H) : ItZ3 K [.ref a, .ref b, .ref c] H R := ⟨_, _, _, _, _, _, rfl, h1, h2, h3, k⟩
theorem s_forZ3 (Pv : Nat → L2.St → List Cell → Prop) (xs ys zs : List V) (l1 : xs.length = ys.length) (l2 : ys.length = zs.length) (B : Own H0 H T L) (start : Pv 0 σ L) (stays : ∀ i σ L H, Pv i σ L → Own H0 H T L → SqL K H a xs ∧ SqL K H b ys ∧ SqL K H c zs)
    (turn : ∀ i x y z σ L H, xs[i]? = some x → ys[i]? = some y → zs[i]? = some z → Pv i σ L → Own H0 H T L → s { D with nx := Inn H0 T (Pv (i + 1)), ct := Inn H0 T (Pv (i + 1)), bk := D.nx } (((σ.set k1 (some x)).set k2 (some y)).set k3 (some z)) H)
    (last : ∀ σ L H, Pv xs.length σ L → Own H0 H T L → D.nx σ H) : ForG (Itz3 K a b c) (gTup K 3 (gCons (gName k1) (gCons (gName k2) (gCons (gName k3) gNil)))) s D σ H := by
  refine ⟨fun i m σ H => m = xs.length - i ∧ i ≤ xs.length ∧ Inn H0 T (Pv i) σ H, ⟨xs.length, rfl, Nat.zero_le _, L, start, B⟩, ?_⟩
  rintro i m σ H ⟨em, le, M, h, B⟩
  obtain ⟨s1, s2, s3⟩ := stays i σ M H h B
  rcases Nat.lt_or_ge i xs.length with lt | ge
  · have at1 : xs[i]? = some xs[i] := List.getElem?_eq_getElem lt
    have at2 : ys[i]? = some (ys[i]'(by omega)) := List.getElem?_eq_getElem (by omega)
    have at3 : zs[i]? = some (zs[i]'(by omega)) := List.getElem?_eq_getElem (by omega)
    refine Or.inr ⟨⟨xs, ys, zs, _, _, _, s1, s2, s3, at1, at2, at3⟩, Inn H0 T (Pv (i + 1)), fun σ' H' p' => ⟨xs.length - (i + 1), by omega, rfl, lt, p'⟩, ?_⟩
    rintro v H' ⟨tp, x, y, z, e1, nT, e2, f1, f2, f3⟩
    have ex := f1 xs s1
    have ey := f2 ys s2
    have ez := f3 zs s3
    subst e1 e2
    exact ⟨tp, _, rfl, SqT.of upd_same, rfl, _, _, rfl, _, _, rfl, _, _, rfl, rfl, turn i x y z σ M _ ex ey ez h (B.new (o := .tup [x, y, z]) nT trivial).tail⟩
  · have e : i = xs.length := by omega
    subst e
    exact Or.inl ⟨⟨xs, ys, zs, s1, s2, s3, by omega⟩, last σ M H h B⟩
end
end My
namespace My
open PySem PySem.Spec PyProof.Rows L2 LamX
section
variable {K : PySem.W.Frag} {H0 H : Hp} {T : List (Addr × Str)} {L L' M : List Cell} {a d : Addr} {kvs : List (Key × V)} {xs : List V} {σ : L2.St} {Q : VK} {te td ty tx tk tv : TE} {v : V} {D : Ends} {tb : TS}
/-! for x in reversed(xs) -/
def ItRv (K : PySem.W.Frag) (v : V) (H1 : Hp) (R : It → Hp → Prop) : Prop := ∃ (a : Addr) (xs : List V), v = .ref a ∧ ((SqL K H1 a xs ∧ R (Itv K a xs.length) H1) ∨ (SqT K H1 a xs ∧ R (RT.ItvT K a xs.length) H1))
theorem s_iRev {R : It → Hp → Prop} (k : te σ H fun v H1 => ItRv K v H1 R) : RT.iRevA K te σ H R := k
theorem s_itRev {R : It → Hp → Prop} (h : H a = some (.lst xs)) (k : R (Itv K a xs.length) H) : ItRv K (.ref a) H R := ⟨a, xs, rfl, .inl ⟨SqL.of h, k⟩⟩
theorem s_forV {kx : Nat} (Pv : Nat → L2.St → List Cell → Prop) (xs : List V) (B : Own H0 H T L) (start : Pv 0 σ L) (stays : ∀ i σ L H, Pv i σ L → Own H0 H T L → SqL K H a xs)
    (turn : ∀ i x σ L H, i < xs.length → xs[xs.length - 1 - i]? = some x → Pv i σ L → Own H0 H T L → tb { D with nx := Inn H0 T (Pv (i + 1)), ct := Inn H0 T (Pv (i + 1)), bk := D.nx } (σ.set kx (some x)) H)
    (last : ∀ σ L H, Pv xs.length σ L → Own H0 H T L → D.nx σ H) : ForG (Itv K a xs.length) (gName kx) tb D σ H := by
  refine ⟨fun i m σ H => m = xs.length - i ∧ i ≤ xs.length ∧ Inn H0 T (Pv i) σ H, ⟨xs.length, rfl, Nat.zero_le _, L, start, B⟩, ?_⟩
  rintro i m σ H ⟨em, le, M, h, B⟩
  have s1 := stays i σ M H h B
  rcases Nat.lt_or_ge i xs.length with lt | ge
  · have at1 : xs[xs.length - 1 - i]? = some (xs[xs.length - 1 - i]'(by omega)) := List.getElem?_eq_getElem (by omega)
    refine Or.inr ⟨⟨lt, xs, _, s1, at1⟩, Inn H0 T (Pv (i + 1)), fun σ' H' p' => ⟨xs.length - (i + 1), by omega, rfl, lt, p'⟩, ?_⟩
    rintro x H' ⟨rfl, f1⟩
    exact turn i x σ M _ lt (f1 xs s1) h B
  · have e : i = xs.length := by omega
    subst e
    exact Or.inl ⟨Nat.le_refl _, last σ M H h B⟩
/-! d.get(x, y) -/
def G2At (x : V) (ty tx : TE) (σ : L2.St) (H1 : Hp) (Q : VK) : Prop := ∃ a, x = .ref a ∧ IsD H1 a ∧ ty σ H1 fun y H2 => tx σ H2 fun z H3 => ∃ o, DGet H3 a y o ∧ Q (o.getD z) H3
def G2End (a : Addr) (y z : V) (H : Hp) (Q : VK) : Prop := ∃ o, DGet H a y o ∧ Q (o.getD z) H
theorem s_get2S (k : td σ H fun x H1 => G2At x ty tx σ H1 Q) : tDGet2 td ty tx σ H Q := k
theorem s_get2T (h : H a = some (.dK kvs)) (k : ty σ H fun y H2 => tx σ H2 fun z H3 => G2End a y z H3 Q) : G2At (.ref a) ty tx σ H Q := ⟨a, rfl, .inl ⟨kvs, .inl h⟩, k⟩
theorem s_get2 {x : Int} {z : V} (h : H a = some (.dK kvs)) (k : Q ((valV kvs (.inl x)).getD z) H) : G2End a (.int x) z H Q := ⟨_, DGet.k (k := .inl x) h, k⟩
/-! {k: v} -/
def DispAt (p : Addr) (x y : V) (H2 : Hp) (Q : VK) : Prop := H2 p = some (.dK []) ∧ ∃ kvs : List (Key × V), [(x, y)] = kvs.map (fun kv => (kV kv.1, kv.2)) ∧ kvs.length ≤ 15 ∧ Q (.ref p) (upd H2 p (.dK (mergeK [] kvs)))
theorem s_disp1 (B : Own H0 H T L) (k : ∀ p H', Own H0 H' T (.ob p (.dK []) :: L) → tk σ H' fun x H1 => tv σ H1 fun y H2 => DispAt p x y H2 Q) : tDisp [(tk, tv)] σ H Q := fun p n => k p _ (B.new n trivial)
theorem s_disp {p : Addr} {x : Int} {y : V} (B : Own H0 H T (.ob p (.dK []) :: L)) (k : ∀ H', Own H0 H' T (.ob p (.dK [(.inl x, y)]) :: L) → Q (.ref p) H') : DispAt p (.int x) y H Q :=
  ⟨B.get p, [(.inl x, y)], rfl, show 1 ≤ 15 from by decide, k _ (B.wr trivial)⟩
/-! for k in d -/
theorem s_forK {i kx : Nat} (Pv : Nat → L2.St → List Cell → Prop) (B : Own H0 H T L) (d : Addr) [P : Pull L d (.ob d (.dK kvs)) L'] (hσ : σ[i]? = some (some (.ref d))) (start : Pv 0 σ L')
    (turn : ∀ rt bk od j k v σ M H, kvs[j]? = some (k, v) → Pv j σ M → Own H0 H T (.ob d (.frz od (.dK kvs)) :: M) →
      tb ⟨Inn H0 T (fun σ N => ∃ M, N = .ob d (.frz od (.dK kvs)) :: M ∧ Pv (j + 1) σ M), rt, bk, Inn H0 T (fun σ N => ∃ M, N = .ob d (.frz od (.dK kvs)) :: M ∧ Pv (j + 1) σ M)⟩ (σ.set kx (some (kV k))) H)
    (last : ∀ σ M H, Pv kvs.length σ M → Own H0 H T (.ob d (.dK kvs) :: M) → D.nx σ H) : tLock (tFor (iKeys (tVar i)) (gName kx) tb) D σ H := by
  refine ⟨d, .dK kvs, B.get d, trivial, fun od => ?_⟩
  have BF : Own H0 (upd H d (.frz od (.dK kvs))) T (.ob d (.frz od (.dK kvs)) :: L') := (B.perm P.p).wr trivial
  refine ⟨.ref d, hσ, d, od, rfl, .inl ⟨kvs, upd_same, ?_⟩⟩
  refine ⟨fun j m σ H => m = kvs.length - j ∧ j ≤ kvs.length ∧ Inn H0 T (fun σ N => ∃ M, N = .ob d (.frz od (.dK kvs)) :: M ∧ Pv j σ M) σ H, ⟨kvs.length, rfl, Nat.zero_le _, _, ⟨_, rfl, start⟩, BF⟩, ?_⟩
  rintro j m σ1 H1 ⟨em, le, N, ⟨M, rfl, h⟩, B1⟩
  have fz : H1 d = some (.frz od (.dK kvs)) := B1.head.1
  rcases Nat.lt_or_ge j kvs.length with lt | ge
  · refine Or.inr ⟨⟨fz, lt⟩, Inn H0 T (fun σ N => ∃ M, N = .ob d (.frz od (.dK kvs)) :: M ∧ Pv (j + 1) σ M), fun σ' H' p' => ⟨kvs.length - (j + 1), by omega, rfl, lt, p'⟩, ?_⟩
    rintro x H' ⟨rfl, k, v, e1, rfl⟩
    exact turn _ _ od j k v σ1 M _ e1 h B1
  · have e : j = kvs.length := by omega
    subst e
    exact Or.inl ⟨⟨fz, Nat.le_refl _⟩, fz, last σ1 M _ h (B1.wr trivial)⟩
end
end My
namespace My
open PySem PySem.Spec PyProof.Rows L2
/-! xs < ys, lists of ints -/
def lexL : List Int → List Int → Bool
  | [], [] => false
  | [], _ :: _ => true
  | _ :: _, [] => false
  | x :: xs, y :: ys => if x = y then lexL xs ys else decide (x < y)
theorem lexL_eq : ∀ xs ys : List Int, PySem.W.listLt xs ys = lexL xs ys
  | [], [] => rfl
  | [], _ :: _ => rfl
  | _ :: _, [] => rfl
  | x :: xs, y :: ys => by
    show (if x = y then PySem.W.listLt xs ys else decide (x < y)) = if x = y then lexL xs ys else decide (x < y)
    rw [lexL_eq xs ys]
def rLtL (K : PySem.W.Frag) : R2 := fun x y H Q => ∃ ns ms : List Int, Dp K H x (dI ns) ∧ Dp K H y (dI ms) ∧ Q (.bl (lexL ns ms)) H
theorem op_ltL {X : Cx} (hu : X.A.units + 64 < cLine) : OpR X (compareOp .Lt) (rLtL X.K) := by
  intro pins s σ H x y v u Q I rx ry h
  obtain ⟨ns, ms, hd, he, q⟩ := h
  obtain ⟨as, r1⟩ := Dp.reads I (dI ns) x v hd rx
  obtain ⟨bs, r2⟩ := Dp.reads I (dI ms) y u he ry
  have e : PySem.W.dataLt (dI ns) (dI ms) = lexL ns ms := (PySem.W.DatumOrd.lt_eq (α := List Int) ns ms).trans (lexL_eq ns ms)
  refine PySem.W.lt_data r1 r2 (PySem.W.DatumOrd.alike (α := List Int) ns ms) (fun z => by cases z) (by have := dI_depth ns; have := Nat.min_le_left (dI ns).depth (dI ms).depth; omega) ⟨.bl _, H, I, ?_, q⟩
  rw [e]
  exact rfl
section
variable {K : PySem.W.Frag} {H : Hp} {a b : Addr} {ns ms : List Int} {Q : VK}
theorem s_ltL (h1 : H a = some (.lst (ns.map V.int))) (h2 : H b = some (.lst (ms.map V.int))) (k : Q (.bl (lexL ns ms)) H) : rLtL K (.ref a) (.ref b) H Q := ⟨ns, ms, dpI (SqL.of h1), dpI (SqL.of h2), k⟩
end
end My
/-! {k: v for x in xs for y in ys}: a dict made by two loops, after the library's road for lists of two loops -/
namespace L2
open PySem PySem.Spec PyProof.Rows
abbrev Dcc (ke ve ta ia : Expr) (fa : List Expr) (tb ib : Expr) (fb : List Expr) (sc : Scope) (ps : Pos) : Expr := .DictComp ke ve [⟨ta, ia, fa, 0⟩, ⟨tb, ib, fb, 0⟩] sc ps
section
variable {ke ve ta ia tb ib : Expr} {fa fb : List Expr} {sc : Scope} {ps : Pos}
theorem dcc_turn0 (it : Value) (D : Addr) (ev : Env) : compTurn (Dcc ke ve ta ia fa tb ib fb sc ps) 0 it (.ref D) ev = (do
    standAt ia.pos
    match ← pyNext it with
    | none => pure (.done .next)
    | some u =>
      letOwnedTupleGo ta it u
      assign ta ev u
      let mut ok := true
      for c in fa do
        if ok then ok ← isTrue c ev (eval c ev)
      if ok then
        let y ← eval ib ev
        standAt ib.pos
        let y ← foldedSetIterable ib ev y
        let _ ← runOwn (.compStart (Dcc ke ve ta ia fa tb ib fb sc ps) 1 (← holding [y] (pyIter y)) (.ref D) ev) ev
      again (.compLoop (Dcc ke ve ta ia fa tb ib fb sc ps) 0 it (.ref D) ev)) := by rfl
theorem dcc_turn1 (it : Value) (D : Addr) (ev : Env) : compTurn (Dcc ke ve ta ia fa tb ib fb sc ps) 1 it (.ref D) ev = (do
    standAt ib.pos
    match ← pyNext it with
    | none => pure (.done .next)
    | some u =>
      letOwnedTupleGo tb it u
      assign tb ev u
      let mut ok := true
      for c in fb do
        if ok then ok ← isTrue c ev (eval c ev)
      if ok then
        (do
          let y ← eval ke ev
          let z ← holding [y] (eval ve ev)
          standAt { ke.pos with endLine := ve.pos.endLine, endCol := ve.pos.endCol }
          holding [y, z] (dictSet D y z))
      again (.compLoop (Dcc ke ve ta ia fa tb ib fb sc ps) 1 it (.ref D) ev)) := by rfl
variable {prog : Program} {w : World} {A : Around} {R : Result → Shared → Prop} {sh : Shared} {it : Value} {D : Addr} {ev : Env}
theorem dcc_outer (hs : ∀ x, foldedSetIterable ib ev x = pure x) (Iv : Nat → Shared → Prop)
    (turn : ∀ n sh, Iv n sh → wpAny (model prog w) A (pyNext it) (fun r s1 => match r with
      | none => R (.ok .next) s1
      | some u => wpAny (model prog w) A (letOwnedTupleGo ta it u) (fun _ s2 => wpAny (model prog w) A (assign ta ev u) (fun _ s3 => wpAny (model prog w) A (forIn fa true fun c r => if r = true then do let ok ← isTrue c ev (eval c ev); pure (ForInStep.yield ok) else pure (ForInStep.yield r)) (fun ok s4 =>
          if ok = true then wpAny (model prog w) A (eval ib ev) (fun x s5 => wpAny (model prog w) A (pyIter x) (fun it1 s6 =>
            codeAny (model prog w) A (.compStart (Dcc ke ve ta ia fa tb ib fb sc ps) 1 it1 (.ref D) ev) (fun r s' => match r with | .ok _ => ∃ m, m < n ∧ Iv m s' | .error _ => False) s6) (notedBy (model prog w) A ev fun e s' => R (.error e) s') s5) (notedBy (model prog w) A ev fun e s' => R (.error e) s') s4
          else ∃ m, m < n ∧ Iv m s4) (notedBy (model prog w) A ev fun e s' => R (.error e) s') s3) (notedBy (model prog w) A ev fun e s' => R (.error e) s') s2) (notedBy (model prog w) A ev fun e s' => R (.error e) s') s1) (notedBy (model prog w) A ev fun e s' => R (.error e) s') sh)
    (n : Nat) (h : Iv n sh) : codeAny (model prog w) A (.compLoop (Dcc ke ve ta ia fa tb ib fb sc ps) 0 it (.ref D) ev) R sh := by
  refine codeAny_loop rfl Iv (fun n t hI => ?_) n h
  show wpAny (model prog w) A ((compTurn (Dcc ke ve ta ia fa tb ib fb sc ps) 0 it (.ref D) ev).onRaise (fun x => do noteFrame x ev; theTreesLotGoes x)) _ _ t
  refine wpAny_noted ?_
  rw [dcc_turn0]
  refine wpAny_bind (wpAny_standAt (wpAny_bind (wpAny_mono (turn n t hI) (fun r t1 g1 => ?_) fun _ _ z => z)))
  cases r with
  | none => exact wpAny_pure g1
  | some u =>
    refine wpAny_bind (wpAny_mono g1 (fun _ t2 g2 => ?_) fun _ _ z => z)
    refine wpAny_bind (wpAny_mono g2 (fun _ t3 g3 => wpAny_bind (wpAny_mono g3 (fun ok t4 g4 => ?_) fun _ _ z => z)) fun _ _ z => z)
    cases ok with
    | false => exact wpAny_pure ⟨rfl, g4⟩
    | true =>
      refine wpAny_bind (wpAny_mono g4 (fun x t5 g5 => ?_) fun _ _ z => z)
      refine wpAny_bind (wpAny_standAt (wpAny_bind (wpAny_of_eq (hs x) (wpAny_bind (wpAny_holding (wpAny_mono g5 (fun it1 t6 g6 => ?_) fun _ _ z => z))))))
      refine wpAny_bind (wpAny_runOwn ?_)
      rw [Around.mark_none]
      refine codeAny_mono g6 fun r t' hr => ?_
      cases r with
      | ok f => first | exact wpAny_pure ⟨rfl, hr⟩ | exact wpAny_bind (wpAny_pure (wpAny_pure ⟨rfl, hr⟩))
      | error e => exact hr.elim
theorem dcc_inner (Iv : Nat → Shared → Prop)
    (turn : ∀ n sh, Iv n sh → wpAny (model prog w) A (pyNext it) (fun r s1 => match r with
      | none => R (.ok .next) s1
      | some u => wpAny (model prog w) A (letOwnedTupleGo tb it u) (fun _ s2 => wpAny (model prog w) A (assign tb ev u) (fun _ s3 => wpAny (model prog w) A (forIn fb true fun c r => if r = true then do let ok ← isTrue c ev (eval c ev); pure (ForInStep.yield ok) else pure (ForInStep.yield r)) (fun ok s4 =>
          if ok = true then wpAny (model prog w) A (eval ke ev) (fun y s5 => wpAny (model prog w) A (eval ve ev) (fun z s6 => wpAny (model prog w) A (dictSet D y z) (fun _ s7 => ∃ m, m < n ∧ Iv m s7) (notedBy (model prog w) A ev fun e s' => R (.error e) s') s6) (notedBy (model prog w) A ev fun e s' => R (.error e) s') s5) (notedBy (model prog w) A ev fun e s' => R (.error e) s') s4
          else ∃ m, m < n ∧ Iv m s4) (notedBy (model prog w) A ev fun e s' => R (.error e) s') s3) (notedBy (model prog w) A ev fun e s' => R (.error e) s') s2) (notedBy (model prog w) A ev fun e s' => R (.error e) s') s1) (notedBy (model prog w) A ev fun e s' => R (.error e) s') sh)
    (n : Nat) (h : Iv n sh) : codeAny (model prog w) A (.compLoop (Dcc ke ve ta ia fa tb ib fb sc ps) 1 it (.ref D) ev) R sh := by
  refine codeAny_loop rfl Iv (fun n t hI => ?_) n h
  show wpAny (model prog w) A ((compTurn (Dcc ke ve ta ia fa tb ib fb sc ps) 1 it (.ref D) ev).onRaise (fun x => do noteFrame x ev; theTreesLotGoes x)) _ _ t
  refine wpAny_noted ?_
  rw [dcc_turn1]
  refine wpAny_bind (wpAny_standAt (wpAny_bind (wpAny_mono (turn n t hI) (fun r t1 g1 => ?_) fun _ _ z => z)))
  cases r with
  | none => exact wpAny_pure g1
  | some u =>
    refine wpAny_bind (wpAny_mono g1 (fun _ t2 g2 => ?_) fun _ _ z => z)
    refine wpAny_bind (wpAny_mono g2 (fun _ t3 g3 => wpAny_bind (wpAny_mono g3 (fun ok t4 g4 => ?_) fun _ _ z => z)) fun _ _ z => z)
    cases ok with
    | false => exact wpAny_pure ⟨rfl, g4⟩
    | true => exact wpAny_bind (wpAny_bind (wpAny_mono g4 (fun y t5 g5 => wpAny_bind (wpAny_holding (wpAny_mono g5 (fun z t6 g6 => wpAny_bind (wpAny_standAt (wpAny_holding (wpAny_mono g6 (fun _ t7 g7 => wpAny_pure ⟨rfl, g7⟩) fun _ _ z => z)))) fun _ _ z => z))) fun _ _ z => z))
theorem dcc_start1 (h0 : codeAny (model prog w) A (.compLoop (Dcc ke ve ta ia fa tb ib fb sc ps) 1 it (.ref D) ev) R sh)
    (h : wpAny (model prog w) A (pyIter it) (fun it' t => codeAny (model prog w) A (.compLoop (Dcc ke ve ta ia fa tb ib fb sc ps) 1 it' (.ref D) ev) R t) (notedBy (model prog w) A ev fun x t => R (.error x) t) sh) :
    codeAny (model prog w) A (.compStart (Dcc ke ve ta ia fa tb ib fb sc ps) 1 it (.ref D) ev) R sh := by
  refine codeAny_of_tree ?_
  show wpAny (model prog w) _ ((compStart (Dcc ke ve ta ia fa tb ib fb sc ps) 1 it (.ref D) ev).onRaise (fun x => do noteFrame x ev; standAt theWindowsPlace)) _ _ sh
  refine wpAny_notedAt ?_
  unfold compStart
  show wpAny (model prog w) _ (ask >>= _) _ _ sh
  refine wpAny_bind (wpAny_askSetting (wpAny_ite ?_))
  split
  · first | exact wpAny_bind (wpAny_pure (wpAny_pure ⟨rfl, h0⟩)) | exact wpAny_pure ⟨rfl, h0⟩
  · first
      | exact wpAny_bind (wpAny_rule (wpAny_bind (wpAny_standAt (wpAny_bind (wpAny_mono h (fun _ t g => wpAny_pure ⟨rfl, g⟩) fun _ _ z => z)))))
      | (refine wpAny_bind (wpAny_rule ?_); show wpAny (model prog w) _ (standAt ib.pos >>= _) _ _ sh; exact wpAny_bind (wpAny_standAt (wpAny_bind (wpAny_mono h (fun _ t g => wpAny_pure ⟨rfl, g⟩) fun _ _ z => z))))
end
section
variable {X : Cx}
/-- {k: v for target in iter for target in iter}, keys ints or texts -/
def tDcc (wi : TI) (g : TG) (tt : TT) (wj : TI) (gj : TG) (tu : TT) (tk tv : TE) (vs us : List Nat) : TE := fun sg H Q => wi sg H fun J Ha => ∀ D, Ha D = none → ∃ W : Nat → Nat → Hp → Prop, (∃ m, W 0 m (upd Ha D (.dK []))) ∧ ∀ i m H, W i m H →
  (J.stop i H ∧ Q (.ref D) H) ∨ (J.go i H ∧ ∃ N : Hp → Prop, (∀ H', N H' → ∃ m', m' < m ∧ W (i + 1) m' H') ∧ ∀ x H', J.yld i H x H' → g x (wipe sg vs) H' fun sa Hb => wipe sa vs = wipe sg vs ∧ tt sa Hb fun b Hc =>
    if b = true then wj sa Hc fun J' Hd => ∃ V : Nat → Nat → Hp → Prop, (∃ m, V 0 m Hd) ∧ ∀ j k H, V j k H →
      (J'.stop j H ∧ N H) ∨ (J'.go j H ∧ ∃ M : Hp → Prop, (∀ H', M H' → ∃ k', k' < k ∧ V (j + 1) k' H') ∧ ∀ x H', J'.yld j H x H' → gj x (wipe sa us) H' fun sb He => wipe sb us = wipe sa us ∧ tu sb He fun b Hf =>
        if b = true then tk sb Hf fun y Hg => tv sb Hg fun z Hh => ∃ kvs k, y = kV k ∧ Hh D = some (.dK kvs) ∧ kvs.length < sizeLine ∧ M (upd Hh D (.dK (putK kvs k z))) else M Hf)
    else N Hc)
theorem dcc_core {pins : List (Addr × Obj)} {s : Shared} {sg : St} {H : Hp} {Q : VK} {ke ve ta ia tb ib : Expr} {fa fb : List Expr} {sc : Scope} {own : List (Str × Nat)} {us : List Nat} {ps ps' : Pos} {wi wj : TI} {g gj : TG} {tt tu : TT} {tk tv : TE} {use : Option (Value → Sem Unit)} {Qf : Value → Shared → Prop}
    (hc : X.calm = true) (hN : X.N.Nodup) (I : Inv X pins sg H s) (hi : PI X ta ia wi) (ok : BlkOk X.N X.env.scope sc own) (hv : ∀ i ∈ us, i ∈ own.map (·.2))
    (hg : ∀ (s : Shared) (H : Hp) (C : Addr) (cl : List (Str × Addr)) (fp : List Addr), PG (X.blk s H sc (compEnvC sc cl C X.env) fp) ta g)
    (ht : ∀ (s : Shared) (H : Hp) (C : Addr) (cl : List (Str × Addr)) (fp : List Addr), PTs (X.blk s H sc (compEnvC sc cl C X.env) fp) fa tt)
    (hj : ∀ (s : Shared) (H : Hp) (C : Addr) (cl : List (Str × Addr)) (fp : List Addr), PI (X.blk s H sc (compEnvC sc cl C X.env) fp) tb ib wj)
    (hgj : ∀ (s : Shared) (H : Hp) (C : Addr) (cl : List (Str × Addr)) (fp : List Addr), PG (X.blk s H sc (compEnvC sc cl C X.env) fp) tb gj)
    (htj : ∀ (s : Shared) (H : Hp) (C : Addr) (cl : List (Str × Addr)) (fp : List Addr), PTs (X.blk s H sc (compEnvC sc cl C X.env) fp) fb tu)
    (hk : ∀ (s : Shared) (H : Hp) (C : Addr) (cl : List (Str × Addr)) (fp : List Addr), PE (X.blk s H sc (compEnvC sc cl C X.env) fp) ke tk)
    (he : ∀ (s : Shared) (H : Hp) (C : Addr) (cl : List (Str × Addr)) (fp : List Addr), PE (X.blk s H sc (compEnvC sc cl C X.env) fp) ve tv)
    (hs : ∀ x, foldedSetIterable ia X.env x = pure x) (hs1 : ∀ e x, foldedSetIterable ib e x = pure x)
    (h : tDcc wi g tt wj gj tu tk tv (own.map (·.2)) us sg H Q)
    (fin : ∀ D C s' m H', Inv X pins sg H' s' → Q (.ref D) H' → s'.heap.Ns C m → FpOk X pins H' C → compPost (model X.prog X.w) X.A X.xe use Qf (.ref D) C (.ok .next) s') :
    wpAny (model X.prog X.w) X.A (comprehension (Dcc ke ve ta ia fa tb ib fb sc ps) sc X.env ps' newDict false (eval ia X.env) use) Qf X.xe s := by
  have free : ∀ y ∈ sc.names, y.2 = .free → ∃ c, X.env.cells.lookup y.1 = some c := fun y hy e => (ok.free y hy e).elim (fun k => I.ok.has _ (.inl k)) fun k => I.ok.has _ (.inr k)
  refine wpAny_comprehension_free (use := use) rfl hs (closure_ok free) ok.kind (fun y hy e => by rw [ok.uniq y hy, e]) (thn (hi.run pins s sg H _ I h) fun xv sa hx => thn hx fun iv sb hb => ?_)
  obtain ⟨it, fp, tn, J, Hb, eit, Ib, T, stb, fb0, q⟩ := hb
  subst eit
  refine wpAny_newObj_type (newEnv_comp ?_)
  generalize hD : sb.heap.objs.size = D
  have hDn : Hb D = none := Ib.hok.fresh (Nat.le_of_eq hD)
  obtain ⟨W, ⟨m0, w0⟩, turn⟩ := q D hDn
  -- the dict, still empty
  generalize hsc : ({ sb with heap := sb.heap.push { cls := .type "dict", data := .dict #[] } } : Shared) = sd
  have Ic : Inv X pins sg (upd Hb D (.dK [])) sd := by
    rw [← hsc]
    refine Ib.laid (t' := sb.toks) (fun b o e => Heap.get?_push_of_some _ e) (Nat.le_of_eq hD) ?_
    rw [← hD]
    exact dk_empty sb.heap Ib.big
  have hpd : sd.heap = sb.heap.push { cls := .type "dict", data := .dict #[] } := by rw [← hsc]
  have low : ∀ b ∈ fp, b < sb.heap.objs.size := fun b hb => let ⟨_, e, _⟩ := T.obj _ _ stb b hb; Heap.lt_size e
  have fc : ∀ b ∈ fp, FpOk X pins (upd Hb D (.dK [])) b ∧ b < sd.heap.objs.size := fun b hb => by
    have lt := low b hb
    refine ⟨⟨?_, (fb0 b hb).2⟩, by rw [hpd, Heap.size_push]; exact Nat.lt_succ_of_lt lt⟩
    rw [upd_ne (by rw [← hD]; exact Nat.ne_of_lt lt)]
    exact (fb0 b hb).1
  have stc : tn 0 sd.heap := T.keep _ _ _ stb fun b _ o e => by rw [hpd]; exact Heap.get?_push_of_some _ e
  have Id := block_start Ic ok hN fc
  have pg := hg sd (upd Hb D (.dK [])) sd.heap.objs.size (cellsFrom (sd.heap.objs.size + 1) sc.names (cloFrom X.env.cells sc.names [])) fp
  have pt := ht sd (upd Hb D (.dK [])) sd.heap.objs.size (cellsFrom (sd.heap.objs.size + 1) sc.names (cloFrom X.env.cells sc.names [])) fp
  have pk := hk sd (upd Hb D (.dK [])) sd.heap.objs.size (cellsFrom (sd.heap.objs.size + 1) sc.names (cloFrom X.env.cells sc.names [])) fp
  have pv := he sd (upd Hb D (.dK [])) sd.heap.objs.size (cellsFrom (sd.heap.objs.size + 1) sc.names (cloFrom X.env.cells sc.names [])) fp
  have pj := hj sd (upd Hb D (.dK [])) sd.heap.objs.size (cellsFrom (sd.heap.objs.size + 1) sc.names (cloFrom X.env.cells sc.names [])) fp
  have pgj := hgj sd (upd Hb D (.dK [])) sd.heap.objs.size (cellsFrom (sd.heap.objs.size + 1) sc.names (cloFrom X.env.cells sc.names [])) fp
  have ptj := htj sd (upd Hb D (.dK [])) sd.heap.objs.size (cellsFrom (sd.heap.objs.size + 1) sc.names (cloFrom X.env.cells sc.names [])) fp
  show codeAny _ _ (.compStart (Dcc ke ve ta ia fa tb ib fb sc ps) 0 (.ref it) (.ref D) (compEnvC sc (cellsFrom (sd.heap.objs.size + 1) sc.names (cloFrom X.env.cells sc.names [])) sd.heap.objs.size X.env)) (compPost (model X.prog X.w) X.A X.xe use Qf (.ref D) sd.heap.objs.size) { sd with heap := pushCells (sd.heap.push { cls := .type "dict", data := .dict #[] }) sc.names }
  have none0 : ∀ b ∈ fp, (upd Hb D (.dK [])) b = none := fun b hb => (fc b hb).1.1
  generalize hce : compEnvC sc (cellsFrom (sd.heap.objs.size + 1) sc.names (cloFrom X.env.cells sc.names [])) sd.heap.objs.size X.env = ce at Id pg pt pk pv pj pgj ptj ⊢
  have locs : ce.locals = sd.heap.objs.size := by subst hce; rfl
  generalize hHc : upd Hb D (.dK []) = Hc at Ic Id pg pt pk pv pj pgj ptj w0 none0 fc
  generalize hse : ({ sd with heap := pushCells (sd.heap.push { cls := .type "dict", data := .dict #[] }) sc.names } : Shared) = se at Id ⊢
  have ste : tn 0 se.heap := T.keep _ _ _ stc fun b _ o e => by rw [← hse]; exact pushCells_keeps _ _ _ _ (Heap.get?_push_of_some _ e)
  have stat : ∀ {st : St} {H' : Hp} {s' : Shared}, Inv (X.blk sd Hc sc ce fp) [] st H' s' → (∀ b ∈ fp, H' b = none) → ∀ b ∈ fp, FpOk (X.blk sd Hc sc ce fp) [] H' b := fun I' hn b hb =>
    ⟨hn b hb, (I'.ok.exf b hb).1, I'.ok.exfs b hb, .inl hb, fun x c e => (I'.ok.exf b hb).2 x c e, fun p hp => absurd (show p ∈ ([] : List (Addr × Obj)) ++ [] from hp) (by simp)⟩
  have whole : codeAny (model X.prog X.w) X.A (.compLoop (Dcc ke ve ta ia fa tb ib fb sc ps) 0 (.ref it) (.ref D) ce) (compPost (model X.prog X.w) X.A X.xe use Qf (.ref D) sd.heap.objs.size) se := by
    refine dcc_outer (hs1 ce) (fun n s' => ∃ i H', Inv (X.blk sd Hc sc ce fp) [] (wipe sg (own.map (·.2))) H' s' ∧ tn i s'.heap ∧ (∀ b ∈ fp, H' b = none) ∧ W i n H') ?_ m0 ⟨0, Hc, Id, ste, none0, w0⟩
    rintro n s5 ⟨i, H5, I5, st5, n5, w5⟩
    rcases turn i n H5 w5 with ⟨stop, qq⟩ | ⟨go, Nx, hNx, step⟩
    · refine thnF (T.done (X.blk sd Hc sc ce fp) rfl rfl rfl hc i [] s5 _ H5 (fun _ _ => False) I5 (stat I5 n5) st5 stop) fun r s6 ⟨hr, I6⟩ => ?_
      subst hr
      have I7 : Inv X pins sg H5 s6 := Ic.call' (ch := fp) I6.os I6.base I6.hok I6.bare fun b hb => let z := (fc b hb).1.2; ⟨z.2.2.1, z.1, z.2.2.2.1, z.2.2.2.2⟩
      have nC : H5 sd.heap.objs.size = none := by rw [← locs]; exact I6.free
      obtain ⟨m, hn, _⟩ := I6.loc
      have hn : s6.heap.Ns ce.locals m := hn
      rw [locs] at hn
      exact fin D sd.heap.objs.size s6 m H5 I7 qq hn (Ic.fpOk (Nat.le_refl _) nC)
    · refine thnF (T.item (X.blk sd Hc sc ce fp) rfl rfl rfl hc i [] s5 _ H5 (fun _ _ => False) I5 (stat I5 n5) st5 go) fun r s6 ⟨u, hr, h6⟩ => ?_
      subst hr
      refine thnF h6 fun _ s7 ⟨x, H7, I7, r7, y7, st7, n7⟩ => ?_
      refine thnF (pg.run _ s7 _ H7 x u _ (I7.pinned (stat I7 n7) (T.obj _ _ st7)) r7 (step x H7 y7)) fun _ s8 ⟨s8', H8, I8, hw8, q8⟩ => ?_
      refine thnF (pt.run _ s8 s8' H8 _ I8 q8) fun b s9 ⟨H9, I9, q9⟩ => ?_
      have ends : ∀ {st : St} {s' : Shared} {H' : Hp}, Inv (X.blk sd Hc sc ce fp) ([] ++ pinsAt fp s7.heap) st H' s' → (wipe sg (own.map (·.2))).length = st.length → (∀ (j : Nat) v, (wipe sg (own.map (·.2)))[j]? = some (some v) → st[j]? = some (some v)) → Nx H' →
          ∃ m, m < n ∧ ∃ i H', Inv (X.blk sd Hc sc ce fp) [] (wipe sg (own.map (·.2))) H' s' ∧ tn i s'.heap ∧ (∀ b ∈ fp, H' b = none) ∧ W i m H' := fun {st s' H'} I' hl hkp nx => by
        obtain ⟨m', hm, w'⟩ := hNx H' nx
        have pin : ∀ b ∈ fp, ∀ o, s7.heap.get? b = some o → s'.heap.get? b = some o ∧ H' b = none := fun b hb o e =>
          have z := I'.pin (b, o) (List.mem_append_right _ (List.mem_append_right _ (mem_pinsAt hb e)))
          ⟨z.1, z.2.1⟩
        exact ⟨m', hm, i + 1, H', (I'.unpinned (pins := [])).weak hl hkp, T.keep _ _ _ st7 fun b hb o e => (pin b hb o e).1, fun b hb => let ⟨o, e, _⟩ := T.obj _ _ st7 b hb; (pin b hb o e).2, w'⟩
      have len8 : (wipe sg (own.map (·.2))).length = s8'.length := by rw [← hw8, wipe_length]
      have know8 : ∀ (j : Nat) v, (wipe sg (own.map (·.2)))[j]? = some (some v) → s8'[j]? = some (some v) := fun j v e => by rw [← hw8] at e; exact (wipe_some e).1
      have know9 : ∀ (j : Nat) v, (wipe sg (own.map (·.2)))[j]? = some (some v) → (wipe s8' us)[j]? = some (some v) := fun j v e => by
        rw [← hw8] at e
        obtain ⟨a1, a2⟩ := wipe_some e
        rw [wipe_out fun z => a2 (hv j z)]
        exact a1
      cases b with
      | false =>
        simp only [Bool.false_eq_true, if_false] at q9 ⊢
        exact ends I9 len8 know8 q9
      | true =>
        simp only [if_true] at q9 ⊢
        refine thnF (pj.run _ s9 s8' H9 _ I9 q9) fun xv s10 hx => thnF hx fun iv s11 h11 => ?_
        obtain ⟨jt, fq, tm, J', H11, ejt, I11, T', st11, f11, V', ⟨m1, w1⟩, turn'⟩ := h11
        subst ejt
        have stat' : ∀ {H' : Hp}, (∀ b ∈ fq, H' b = none) → ∀ b ∈ fq, FpOk (X.blk sd Hc sc ce fp) ([] ++ pinsAt fp s7.heap) H' b := fun hn b hb => ⟨hn b hb, (f11 b hb).2⟩
        have inner : codeAny (model X.prog X.w) X.A (.compLoop (Dcc ke ve ta ia fa tb ib fb sc ps) 1 (.ref jt) (.ref D) ce)
            (fun r s' => match r with
              | .ok _ => ∃ m, m < n ∧ ∃ i H', Inv (X.blk sd Hc sc ce fp) [] (wipe sg (own.map (·.2))) H' s' ∧ tn i s'.heap ∧ (∀ b ∈ fp, H' b = none) ∧ W i m H'
              | .error _ => False) s11 := by
          refine dcc_inner (fun k s' => ∃ j H', Inv (X.blk sd Hc sc ce fp) ([] ++ pinsAt fp s7.heap) (wipe s8' us) H' s' ∧ tm j s'.heap ∧ (∀ b ∈ fq, H' b = none) ∧ V' j k H') ?_ m1 ⟨0, H11, I11.weak (wipe_length _ _) (fun j v e => (wipe_some e).1), st11, fun b hb => (f11 b hb).1, w1⟩
          rintro k s12 ⟨j, H12, I12, st12, n12, w12⟩
          rcases turn' j k H12 w12 with ⟨stop1, nx1⟩ | ⟨go1, Ny, hNy, step1⟩
          · refine thnF (T'.done (X.blk sd Hc sc ce fp) rfl rfl rfl hc j _ s12 (wipe s8' us) H12 (fun _ _ => False) I12 (stat' n12) st12 stop1) fun r s13 ⟨hr, I13⟩ => ?_
            subst hr
            exact ends I13 (len8.trans (wipe_length s8' us).symm) know9 nx1
          · refine thnF (T'.item (X.blk sd Hc sc ce fp) rfl rfl rfl hc j _ s12 (wipe s8' us) H12 (fun _ _ => False) I12 (stat' n12) st12 go1) fun r s13 ⟨u1, hr, h13⟩ => ?_
            subst hr
            refine thnF h13 fun _ s14 ⟨x1, H14, I14, r14, y14, st14, n14⟩ => ?_
            refine thnF (pgj.run _ s14 (wipe s8' us) H14 x1 u1 _ (I14.pinned (stat' n14) (T'.obj _ _ st14)) r14 (step1 x1 H14 y14)) fun _ s15 ⟨s15', H15, I15, hw15, q15⟩ => ?_
            refine thnF (ptj.run _ s15 s15' H15 _ I15 q15) fun b1 s16 ⟨H16, I16, q16⟩ => ?_
            have ends1 : ∀ {s' : Shared} {H' : Hp}, Inv (X.blk sd Hc sc ce fp) (([] ++ pinsAt fp s7.heap) ++ pinsAt fq s14.heap) s15' H' s' → Ny H' → ∃ m, m < k ∧ ∃ j H', Inv (X.blk sd Hc sc ce fp) ([] ++ pinsAt fp s7.heap) (wipe s8' us) H' s' ∧ tm j s'.heap ∧ (∀ b ∈ fq, H' b = none) ∧ V' j m H' := fun {s' H'} I' nx => by
              obtain ⟨m', hm, w'⟩ := hNy H' nx
              have pin : ∀ b ∈ fq, ∀ o, s14.heap.get? b = some o → s'.heap.get? b = some o ∧ H' b = none := fun b hb o e =>
                have z := I'.pin (b, o) (List.mem_append_right _ (List.mem_append_right _ (mem_pinsAt hb e)))
                ⟨z.1, z.2.1⟩
              exact ⟨m', hm, j + 1, H', I'.unpinned.weak (by rw [← hw15, wipe_length]) (fun j v e => by rw [← hw15] at e; exact (wipe_some e).1), T'.keep _ _ _ st14 fun b hb o e => (pin b hb o e).1, fun b hb => let ⟨o, e, _⟩ := T'.obj _ _ st14 b hb; (pin b hb o e).2, w'⟩
            cases b1 with
            | false =>
              simp only [Bool.false_eq_true, if_false] at q16 ⊢
              exact ends1 I16 q16
            | true =>
              simp only [if_true] at q16 ⊢
              refine thnF (pk.run _ s16 s15' H16 _ I16 q16) fun z s17 ⟨yk, H17, I17, r17, q17⟩ => ?_
              refine thnF (pv.run _ s17 s15' H17 _ I17 q17) fun z2 s18 ⟨yv, H18, I18, r18, kvs, key, ek, hD18, hz18, nx⟩ => ?_
              subst ek
              exact d_dictSet (X := X.blk sd Hc sc ce fp) I18 hD18 hz18 r17 r18 fun s19 I19 => ends1 I19 nx
        exact dcc_start1 inner (T'.self X.A 0 _ _ _ st11 inner)
  exact codeAny_compStart_dict whole (T.self X.A 0 _ _ _ ste whole)
theorem pe_dcc {ke ve ta ia tb ib : Expr} {fa fb : List Expr} {sc : Scope} {own : List (Str × Nat)} {us : List Nat} {ps : Pos} {wi wj : TI} {g gj : TG} {tt tu : TT} {tk tv : TE}
    (hc : X.calm = true) (hN : X.N.Nodup) (hi : PI X ta ia wi) (ok : BlkOk X.N X.env.scope sc own) (hv : ∀ i ∈ us, i ∈ own.map (·.2))
    (hg : ∀ (s : Shared) (H : Hp) (C : Addr) (cl : List (Str × Addr)) (fp : List Addr), PG (X.blk s H sc (compEnvC sc cl C X.env) fp) ta g)
    (ht : ∀ (s : Shared) (H : Hp) (C : Addr) (cl : List (Str × Addr)) (fp : List Addr), PTs (X.blk s H sc (compEnvC sc cl C X.env) fp) fa tt)
    (hj : ∀ (s : Shared) (H : Hp) (C : Addr) (cl : List (Str × Addr)) (fp : List Addr), PI (X.blk s H sc (compEnvC sc cl C X.env) fp) tb ib wj)
    (hgj : ∀ (s : Shared) (H : Hp) (C : Addr) (cl : List (Str × Addr)) (fp : List Addr), PG (X.blk s H sc (compEnvC sc cl C X.env) fp) tb gj)
    (htj : ∀ (s : Shared) (H : Hp) (C : Addr) (cl : List (Str × Addr)) (fp : List Addr), PTs (X.blk s H sc (compEnvC sc cl C X.env) fp) fb tu)
    (hk : ∀ (s : Shared) (H : Hp) (C : Addr) (cl : List (Str × Addr)) (fp : List Addr), PE (X.blk s H sc (compEnvC sc cl C X.env) fp) ke tk)
    (he : ∀ (s : Shared) (H : Hp) (C : Addr) (cl : List (Str × Addr)) (fp : List Addr), PE (X.blk s H sc (compEnvC sc cl C X.env) fp) ve tv)
    (hs : ∀ x, foldedSetIterable ia X.env x = pure x := by intro _; rfl) (hs1 : ∀ e x, foldedSetIterable ib e x = pure x := by intro _ _; rfl) :
    PE X (Dcc ke ve ta ia fa tb ib fb sc ps) (tDcc wi g tt wj gj tu tk tv (own.map (·.2)) us) := by
  refine ⟨fun pins s sg H Q I h => ?_⟩
  rw [arm_eval_DictComp]
  refine dcc_core hc hN I hi ok hv hg ht hj hgj htj hk he hs hs1 h fun D C s' m H' I' q hn f => ⟨m, hn, fun h2 sb => ?_⟩
  obtain ⟨f0, f1, f2, f3, f4, f5⟩ := f
  exact ⟨.ref D, H', I'.turned (t' := s'.toks) (fun b o hb e => (sb.2 b hb).trans e) f0 f1 f3 f4 f5, rfl, q⟩
end
end L2
namespace My
open PySem PySem.Spec PyProof.Rows L2 LamX
def DccG (J : It) (g : TG) (tt : TT) (wj : TI) (gj : TG) (tu : TT) (tk tv : TE) (vs us : List Nat) (sg : L2.St) (Q : VK) (Ha : Hp) : Prop := ∀ D, Ha D = none → ∃ W : Nat → Nat → Hp → Prop, (∃ m, W 0 m (upd Ha D (.dK []))) ∧ ∀ i m H, W i m H →
  (J.stop i H ∧ Q (.ref D) H) ∨ (J.go i H ∧ ∃ N : Hp → Prop, (∀ H', N H' → ∃ m', m' < m ∧ W (i + 1) m' H') ∧ ∀ x H', J.yld i H x H' → g x (wipe sg vs) H' fun sa Hb => wipe sa vs = wipe sg vs ∧ tt sa Hb fun b Hc =>
    if b = true then wj sa Hc fun J' Hd => ∃ V : Nat → Nat → Hp → Prop, (∃ m, V 0 m Hd) ∧ ∀ j k H, V j k H →
      (J'.stop j H ∧ N H) ∨ (J'.go j H ∧ ∃ M : Hp → Prop, (∀ H', M H' → ∃ k', k' < k ∧ V (j + 1) k' H') ∧ ∀ x H', J'.yld j H x H' → gj x (wipe sa us) H' fun sb He => wipe sb us = wipe sa us ∧ tu sb He fun b Hf =>
        if b = true then tk sb Hf fun y Hg => tv sb Hg fun z Hh => ∃ kvs k, y = kV k ∧ Hh D = some (.dK kvs) ∧ kvs.length < sizeLine ∧ M (upd Hh D (.dK (putK kvs k z))) else M Hf)
    else N Hc)
theorem valP (kvs : List (Key × V)) (x z : Int) (y : V) : valV (putK kvs (.inl x) y) (.inl z) = if z = x then some y else valV kvs (.inl z) := by
  rw [valV_put]
  by_cases h : z = x
  · rw [if_pos h, if_pos (by rw [h])]
  · rw [if_neg h, if_neg (fun e => h (by injection e))]
section
variable {K : PySem.W.Frag} {H0 H : Hp} {T : List (Addr × Str)} {L L' : List Cell} {p : Addr} {qs : List Addr} {fam : List (List Int)} {σ : L2.St} {Q : VK} {ki kq kx : Nat} {vs us : List Nat} {wi wj : TI} {g gj : TG} {tt tu : TT} {tk tv : TE}
theorem s_dccS (k : wi σ H fun J H1 => DccG J g tt wj gj tu tk tv vs us σ Q H1) : tDcc wi g tt wj gj tu tk tv vs us σ H Q := k
/-- {x: i for i, q in enumerate(family) for x in q} -/
theorem s_dccW (B : Own H0 H T L) (ft : ∀ H', Own H0 H' T L → H' p = some (.lst (qs.map V.ref))) (fr : ∀ H', Own H0 H' T L → Rws H' qs (vv fam)) (hlq : qs.length = fam.length) (hz : fam.flatten.length ≤ 100000) (nd : fam.flatten.Nodup)
    (wp : ∀ x y : V, wipe (((wipe σ vs).set ki (some x)).set kq (some y)) vs = wipe σ vs) (gq : ∀ x y : V, (((wipe σ vs).set ki (some x)).set kq (some y))[kq]? = some (some y))
    (wp1 : ∀ x y z : V, wipe ((wipe (((wipe σ vs).set ki (some x)).set kq (some y)) us).set kx (some z)) us = wipe (((wipe σ vs).set ki (some x)).set kq (some y)) us)
    (gx : ∀ x y z : V, ((wipe (((wipe σ vs).set ki (some x)).set kq (some y)) us).set kx (some z))[kx]? = some (some z)) (gi : ∀ x y z : V, ((wipe (((wipe σ vs).set ki (some x)).set kq (some y)) us).set kx (some z))[ki]? = some (some x))
    (last : ∀ D kvs H', (∀ (j : Nat) (f : List Int), fam[j]? = some f → ∀ x ∈ f, valV kvs (.inl x) = some (.int (j : Int))) → Own H0 H' T (.ob D (.dK kvs) :: L) → Q (.ref D) H') : DccG (Ite K p) (gTup K 2 (gCons (gName ki) (gCons (gName kq) gNil))) tYes (iList K (tVar kq)) (gName kx) tYes (tVar kx) (tVar ki) vs us σ Q H := by
  intro D nD
  have tot : ∀ i f, fam[i]? = some f → (fam.take i).flatten.length + f.length ≤ fam.flatten.length := fun i f ef => by
    have h1 := congrArg (fun z => z.flatten.length) (List.take_append_drop (i + 1) fam)
    simp only [List.flatten_append, List.length_append] at h1
    have h2 : (fam.take (i + 1)).flatten = (fam.take i).flatten ++ f := by rw [List.take_add_one, ef, List.flatten_append]; simp
    rw [h2, List.length_append] at h1
    omega
  refine ⟨fun i m H' => m = qs.length - i ∧ i ≤ qs.length ∧ ∃ kvs, kvs.length ≤ (fam.take i).flatten.length ∧ (∀ (j : Nat) (f : List Int), j < i → fam[j]? = some f → ∀ x ∈ f, valV kvs (.inl x) = some (.int (j : Int))) ∧ Own H0 H' T (.ob D (.dK kvs) :: L), ⟨qs.length, rfl, Nat.zero_le _, [], Nat.zero_le _, fun j f hj => absurd hj (Nat.not_lt_zero _), B.new nD trivial⟩, ?_⟩
  rintro i m H' ⟨em, le, kvs, hk, hv, B⟩
  have top := ft _ B.tail
  rcases Nat.lt_or_ge i qs.length with lt | ge
  · have hq : qs[i]? = some qs[i] := List.getElem?_eq_getElem lt
    have ef : fam[i]? = some (fam[i]'(by omega)) := List.getElem?_eq_getElem _
    generalize fam[i]'(by omega) = f2 at ef
    have ht := tot i f2 ef
    refine Or.inr ⟨⟨_, .ref qs[i], SqL.of top, by rw [List.getElem?_map, hq]; rfl⟩, fun H' => ∃ kvs, kvs.length ≤ (fam.take (i + 1)).flatten.length ∧ (∀ (j : Nat) (f : List Int), j < i + 1 → fam[j]? = some f → ∀ x ∈ f, valV kvs (.inl x) = some (.int (j : Int))) ∧ Own H0 H' T (.ob D (.dK kvs) :: L), fun H' e => ⟨qs.length - (i + 1), by omega, rfl, lt, e⟩, ?_⟩
    rintro x H' ⟨tp, y, e1, nT, e2, f⟩
    have ey : y = .ref qs[i] := by
      have z := f _ (SqL.of top)
      rw [List.getElem?_map, hq] at z
      exact (Option.some.inj z).symm
    subst e1 e2 ey
    have B := (B.new (o := .tup [.int (i : Nat), .ref qs[i]]) nT trivial).tail
    refine ⟨tp, _, rfl, SqT.of upd_same, rfl, _, _, rfl, _, _, rfl, rfl, wp _ _, ?_⟩
    refine s_yes ?_
    refine iteT ?_
    refine ⟨.ref qs[i], gq _ _, qs[i], rfl, ⟨_, SqL.of ((fr _ B.tail).get i _ _ hq (vv_get ef))⟩, ?_⟩
    refine ⟨fun j k H' => k = f2.length - j ∧ j ≤ f2.length ∧ ∃ kvs, kvs.length ≤ (fam.take i).flatten.length + j ∧ (∀ (j : Nat) (f : List Int), j < i → fam[j]? = some f → ∀ x ∈ f, valV kvs (.inl x) = some (.int (j : Int))) ∧ (∀ x ∈ f2.take j, valV kvs (.inl x) = some (.int (i : Int))) ∧ Own H0 H' T (.ob D (.dK kvs) :: L), ⟨f2.length, rfl, Nat.zero_le _, kvs, hk, hv, (fun x h => nomatch h), B⟩, ?_⟩
    rintro j k H' ⟨ek, le2, kvs, hk, hv, hv2, B⟩
    have hf : H' qs[i] = some (.lst (f2.map V.int)) := (fr _ B.tail).get i _ _ hq (vv_get ef)
    rcases Nat.lt_or_ge j f2.length with lt2 | ge2
    · have hn : f2[j]? = some f2[j] := List.getElem?_eq_getElem lt2
      refine Or.inr ⟨⟨_, .int f2[j], SqL.of hf, by rw [List.getElem?_map, hn]; rfl⟩, fun H' => ∃ kvs, kvs.length ≤ (fam.take i).flatten.length + (j + 1) ∧ (∀ (j : Nat) (f : List Int), j < i → fam[j]? = some f → ∀ x ∈ f, valV kvs (.inl x) = some (.int (j : Int))) ∧ (∀ x ∈ f2.take (j + 1), valV kvs (.inl x) = some (.int (i : Int))) ∧ Own H0 H' T (.ob D (.dK kvs) :: L), fun H' e => ⟨f2.length - (j + 1), by omega, rfl, lt2, e⟩, ?_⟩
      rintro y H' ⟨rfl, fy⟩
      have ey : y = .int f2[j] := by
        have z := fy _ (SqL.of hf)
        rw [List.getElem?_map, hn] at z
        exact (Option.some.inj z).symm
      subst ey
      refine ⟨wp1 _ _ _, ?_⟩
      refine s_yes ?_
      refine iteT ?_
      refine ⟨.int f2[j], gx _ _ _, .int (i : Nat), gi _ _ _, kvs, .inl f2[j], rfl, B.get D, by unfold sizeLine; omega, putK kvs (.inl f2[j]) (.int (i : Int)), ?_, fun j' f' hj' hf' x' hx' => ?_, fun x' hx' => ?_, B.wr trivial⟩
      · have := length_putK kvs (.inl f2[j]) (.int (i : Int))
        omega
      · rw [valP, if_neg fun e => ?_]
        · exact hv j' f' hj' hf' x' hx'
        · have p1 := (List.pairwise_flatten.mp nd).2
          have e1 := (List.getElem?_eq_some_iff.mp hf').2
          have e2 := (List.getElem?_eq_some_iff.mp ef).2
          have p2 := List.pairwise_iff_getElem.mp p1 j' i (List.getElem?_eq_some_iff.mp hf').1 (List.getElem?_eq_some_iff.mp ef).1 hj'
          rw [e1, e2] at p2
          exact p2 _ hx' _ (List.getElem_mem lt2) e
      · rw [valP]
        by_cases e : x' = f2[j]
        · rw [if_pos e]
        · rw [if_neg e]
          rw [List.take_add_one, hn] at hx'
          rcases List.mem_append.mp hx' with h | h
          · exact hv2 x' h
          · exact absurd (List.mem_singleton.mp h) e
    · refine Or.inl ⟨⟨_, SqL.of hf, by rw [List.length_map]; exact ge2⟩, kvs, ?_, fun j' f' hj' hf' => ?_, B⟩
      · have h2 : (fam.take (i + 1)).flatten = (fam.take i).flatten ++ f2 := by rw [List.take_add_one, ef, List.flatten_append]; simp
        rw [h2, List.length_append]
        omega
      · rcases Nat.lt_or_ge j' i with h | h
        · exact hv j' f' h hf'
        · have : j' = i := by omega
          subst this
          rw [ef] at hf'
          cases hf'
          rw [List.take_of_length_le ge2] at hv2
          exact hv2
  · have e : i = qs.length := by omega
    subst e
    refine Or.inl ⟨⟨_, SqL.of top, by rw [List.length_map]; exact Nat.le_refl _⟩, last D kvs _ (fun j f hf => hv j f (by have := (List.getElem?_eq_some_iff.mp hf).1; omega) hf) B⟩
end
end My
namespace My
open PySem PySem.Spec PyProof.Rows L2
def topS (i : Nat) : Stmt := PySem.Challenge.pw_leastheads_k28_contradictions_returned.main.body.getD i (.Pass ⟨0, 0, 0, 0⟩)
abbrev sInt : Stmt := topS 5
abbrev sIsIndex : Stmt := topS 6
abbrev sNums : Stmt := topS 7
abbrev sIsAscending : Stmt := topS 8
abbrev sAreIndices : Stmt := topS 9
abbrev sReq : Stmt := topS 10
abbrev sSplit : Stmt := topS 11
abbrev sIsNumberOf : Stmt := topS 13
abbrev sIsFact : Stmt := topS 14
abbrev sAllFacts : Stmt := topS 15
abbrev sRequireFacts : Stmt := topS 16
abbrev sNodesOf : Stmt := topS 17
abbrev sLinkOf : Stmt := topS 18
abbrev sJoinGroups : Stmt := topS 19
abbrev sSolve : Stmt := topS 20
abbrev sContradict : Stmt := topS 21
abbrev sLeastContradiction : Stmt := topS 22
abbrev sContradictionOf : Stmt := topS 23
abbrev sIsContradiction : Stmt := topS 24
abbrev sLawPot : Stmt := topS 26
abbrev sLawTake : Stmt := topS 27
abbrev sLawSome : Stmt := topS 28
abbrev sLawNumbers : Stmt := topS 29
abbrev sLawBlocks : Stmt := topS 30
abbrev sLawAllChosen : Stmt := topS 31
abbrev sLawFacts : Stmt := topS 32
abbrev sLawHolds : Stmt := topS 33
abbrev sLawFitting : Stmt := topS 34
abbrev sLawShort : Stmt := topS 35
abbrev sLawIsMinimal : Stmt := topS 36
abbrev sLawGroup : Stmt := topS 37
abbrev sLawRight : Stmt := topS 38
abbrev sLawGreatRight : Stmt := topS 39
abbrev sLaw : Stmt := topS 40
/-- the built-in names that stay built in -/
structure Txt (mg : Str → Option Value) : Prop where
  isi : mg "isinstance" = none
  int : mg "int" = none
  bool : mg "bool" = none
  list : mg "list" = none
  all : mg "all" = none
  len : mg "len" = none
  set : mg "set" = none
  max : mg "max" = none
  min : mg "min" = none
  range : mg "range" = none
  enum : mg "enumerate" = none
  repr : mg "repr" = none
  sorted : mg "sorted" = none
  tuple : mg "tuple" = none
  zip : mg "zip" = none
  reversed : mg "reversed" = none
  sum : mg "sum" = none
  str : mg "str" = none
  any : mg "any" = none
  abs : mg "abs" = none
  divmod : mg "divmod" = none
  dict : mg "dict" = none
end My
namespace My
open PySem PySem.Spec PyProof.Rows L2
theorem scSplit : FnScope ["numbers", "blocks", "number"] ["numbers"] (defScope sSplit) := ⟨rfl, rfl, rfl, by decide +kernel, rfl, by decide +kernel, by decide +kernel⟩

/-- new rows at new addresses, the list of them at p -/
structure NewRows (H H' : Hp) (p : Addr) (qs : List Addr) (bs : List (List V)) : Prop where
  same : Same H H'
  fresh : ∀ q ∈ qs, H q = none
  freshp : H p = none
  top : H' p = some (.lst (qs.map V.ref))
  off : p ∉ qs
  rows : Rws H' qs bs
theorem atI_last1 {qs : List Addr} {q : Addr} : atI ((qs ++ [q]).map V.ref) (-1) = some (.ref q) := by
  rw [List.map_append]
  exact atI_last _ _

section
variable {P : Program} {w : World} {K : PySem.W.Frag} {mg : Str → Option Value} {base : Heap}
def spSplit : Sp := fun vs H Q _ => ∃ (a : Addr) (ns : List Int), vs = [.ref a] ∧ H a = some (.lst (ns.map V.int)) ∧ ns.length ≤ 4000 ∧
  ∀ H' p qs, NewRows H H' p qs (vv (cut ns)) → Q (.ref p) H'
theorem ok_split {f : Addr} {fd : FuncData} {k : Nat} (F : Fun K "split_blocks" "split_blocks" sSplit f fd) (T : Txt mg) : FnOk P w K mg base CX0 (k + 1) f fd ["numbers"] spSplit := by
  refine F.ok scSplit (fun vs H Q E h => ?_) (fun cdv A outer s H vs Q E hr h => ?_)
  · obtain ⟨a, ns, rfl, _⟩ := h
    rfl
  · obtain ⟨a, ns, rfl, hS, hl, q⟩ := h
    refine ⟨_, pss_cons (ps_set (i := 1) scSplit.nd rfl (.inl rfl) (pe_lst pa_nil))
      (pss_cons (ps_for PassesOwn.never rfl (pi_list (pv 0)) (pg_name (i := 2) scSplit.nd rfl (.inl rfl))
        (pss_one (ps_if (PW.pt (pw_or (pt_cmpR op_eq (pe_callB call_len_seq (by rfl) T.len PySem.boot_len (pa_cons (pv 1) pa_nil)) pe_int (nomark _))
            (pw_or1 (pt_cmpR op_gt (pv 2) (pe_ix ix_list (pe_ix ix_list (pv 1) (pe_un un_neg pe_int) (fun _ _ => rfl)) pe_int (fun _ _ => rfl)) (nomark _)))))
          (pss_one (ps_expr (pe_bm PySem.F.plainAttrs_list PySem.F.slot_list_append PySem.F.type_list_append mt_append (pv 1) (pa_cons (pe_lst (pa_cons (pv 2) pa_nil)) pa_nil))))
          (pss_one (ps_expr (pe_bm PySem.F.plainAttrs_list PySem.F.slot_list_append PySem.F.type_list_append mt_append (pe_ix ix_list (pv 1) (pe_un un_neg pe_int) (fun _ _ => rfl)) (pa_cons (pv 2) pa_nil)))))))
      (pss_one (ps_ret (pv 1)))), ?_⟩
    refine ⟨Nat.zero_le _, fun p np => ?_⟩
    have nap : a ≠ p := ne_of_none hS np
    refine ⟨.ref a, rfl, a, rfl, ⟨_, SqL.of (by rw [upd_ne nap]; exact hS)⟩, for_list (K := K) (a := a) (xs := ns.map V.int)
      (fun i σ H' => ∃ y qs, σ = [some (.ref a), some (.ref p), y] ∧ NewRows H H' p qs (vv (cut (ns.take i)))) ⟨none, [], rfl, sameN np, by simp, np, upd_same, by simp, Rws.nil⟩ ?_ ?_ ?_⟩
    · rintro i σ H' _ ⟨y, qs, _, N⟩
      exact SqL.of (N.same _ _ hS)
    · rintro i x σ H' hx ⟨y, qs, rfl, N⟩
      rw [List.getElem?_map] at hx
      obtain ⟨n, hn, rfl⟩ := Option.map_eq_some_iff.mp hx
      have hi : i < ns.length := (List.getElem?_eq_some_iff.mp hn).1
      have G := good_cut (ns.take i)
      have hlen : qs.length ≤ 4000 := by
        have h1 := N.rows.len
        rw [vv_len] at h1
        have h2 := G.len
        rw [List.length_take] at h2
        omega
      refine ⟨.ref p, rfl, p, _, rfl, .inl (SqL.of N.top), rfl, _, rfl, ?_⟩
      rcases G.last with e | ⟨ini, m, r, e, hm, hmax⟩
      · -- no block yet
        have hq : qs = [] := List.eq_nil_of_length_eq_zero (by rw [N.rows.len, vv_len, e]; rfl)
        subst hq
        refine iteT (iteT ?_)
        refine ⟨.ref p, rfl, .inl ⟨rfl, _, SqL.of N.top⟩, (.int n), rfl, (show 1 ≤ sizeLine by decide), fun q nq => ?_⟩
        have npq : p ≠ q := ne_of_none N.top nq
        refine ⟨p, _, _, rfl, rfl, by rw [upd_ne npq]; exact N.top, by decide, ?_⟩
        refine ⟨_, [q], rfl, same0 (same0 N.same (N.same.free nq)) N.freshp, ?_, N.freshp, upd_same, ?_, ?_⟩
        · intro z hz
          have e2 : z = q := by simpa using hz
          rw [e2]; exact N.same.free nq
        · intro z
          exact npq (by simpa using z)
        · rw [cut_take hn, e, put_nil]
          have R := (N.rows.push (b := [V.int n]) nq).off (o := .lst ([] ++ [V.ref q])) (p := p) (by intro z; exact npq (by simpa using z))
          rw [e] at R
          exact R
      · -- behind the last block or a new one
        have hv : vv (cut (ns.take i)) = vv ini ++ [(m :: r).map V.int] := by rw [e]; exact List.map_append ..
        have hql : qs.length = (vv ini).length + 1 := by rw [N.rows.len, hv, List.length_append]; rfl
        obtain ⟨qi, ql, hqe⟩ : ∃ qi ql, qs = qi ++ [ql] := by
          rcases List.eq_nil_or_concat qs with z | ⟨a1, b1, z⟩
          · rw [z] at hql; cases hql
          · exact ⟨a1, b1, by rw [z, List.concat_eq_append]⟩
        subst hqe
        have hqi : qi.length = (vv ini).length := by
          rw [List.length_append] at hql
          have : [ql].length = 1 := rfl
          omega
        have at1 : (qi ++ [ql])[qi.length]? = some ql := by simp
        have at2 : (vv (cut (ns.take i)))[qi.length]? = some ((m :: r).map V.int) := by rw [hv, hqi]; simp
        have hlast : H' ql = some (.lst ((m :: r).map V.int)) := N.rows.get _ _ _ at1 at2
        have npl : p ≠ ql := fun z => N.off (by rw [z]; simp)
        have e0 : decide (V.int ((qi ++ [ql]).map V.ref).length = V.int 0) = false := by
          apply decide_eq_false
          intro z
          have z2 := V.int.inj z
          rw [List.length_map, List.length_append] at z2
          have : [ql].length = 1 := rfl
          omega
        rw [e0]
        refine iteF ?_
        refine ⟨.int n, rfl, .ref p, rfl, 1, rfl, p, _, _, .ref ql, rfl, rfl, SqL.of N.top, atI_last1, ql, _, _, .int m, rfl, rfl, SqL.of hlast, atI_nat (j := 0) rfl, n, m, rfl, rfl, _, rfl, ?_⟩
        by_cases hlt : m < n
        · have e1 : decide (n > m) = true := decide_eq_true hlt
          rw [e1]
          refine iteT ?_
          refine ⟨.ref p, rfl, .inl ⟨rfl, _, SqL.of N.top⟩, (.int n), rfl, (show 1 ≤ sizeLine by decide), fun q nq => ?_⟩
          have npq : p ≠ q := ne_of_none N.top nq
          have nqs : q ∉ qi ++ [ql] := fun z => N.rows.there z nq
          refine ⟨p, _, _, rfl, rfl, by rw [upd_ne npq]; exact N.top, ?_, ?_⟩
          · rw [List.length_map]; unfold sizeLine; omega
          refine ⟨_, qi ++ [ql] ++ [q], rfl, same0 (same0 N.same (N.same.free nq)) N.freshp, ?_, N.freshp, ?_, ?_, ?_⟩
          · intro z hz
            rcases List.mem_append.mp hz with y | y
            · exact N.fresh z y
            · have e2 : z = q := by simpa using y
              rw [e2]; exact N.same.free nq
          · rw [upd_same, List.map_append (l₁ := qi ++ [ql])]
            rfl
          · intro z
            rcases List.mem_append.mp z with y | y
            · exact N.off y
            · exact npq (by simpa using y)
          · have hput : cut (ns.take (i + 1)) = (ini ++ [m :: r]) ++ [[n]] := by
              rw [cut_take hn, e, put_snoc]
              exact if_pos hlt
            rw [hput]
            have R := (N.rows.push (b := [V.int n]) nq).off (o := .lst ((qi ++ [ql]).map V.ref ++ [V.ref q])) (p := p) (by
              intro z
              rcases List.mem_append.mp z with y | y
              · exact N.off y
              · exact npq (by simpa using y))
            rw [e] at R
            have ev : vv (ini ++ [m :: r] ++ [[n]]) = vv (ini ++ [m :: r]) ++ [[V.int n]] := List.map_append ..
            rw [ev]
            exact R
        · have e1 : decide (n > m) = false := decide_eq_false hlt
          rw [e1]
          refine iteF ?_
          refine ⟨.ref p, rfl, 1, rfl, p, _, _, .ref ql, rfl, rfl, SqL.of N.top, atI_last1, .inl ⟨rfl, _, SqL.of hlast⟩, .int n, rfl, ql, _, _, rfl, rfl, hlast, ?_, ?_⟩
          · rw [List.length_map]
            have h1 := G.rowlen (b := m :: r) (by rw [e]; simp)
            rw [List.length_take] at h1
            unfold sizeLine; omega
          refine ⟨_, qi ++ [ql], rfl, same0 N.same (N.fresh ql (by simp)), N.fresh, N.freshp, ?_, N.off, ?_⟩
          · rw [upd_ne npl]; exact N.top
          · have hput : cut (ns.take (i + 1)) = ini ++ [(m :: r) ++ [n]] := by
              rw [cut_take hn, e, put_snoc]
              exact if_neg hlt
            rw [hput]
            have R := N.rows.put (b := (m :: r).map V.int ++ [V.int n]) at1
            rw [hv, hqi, List.set_append_right _ _ (Nat.le_refl _), Nat.sub_self] at R
            have ev : vv (ini ++ [(m :: r) ++ [n]]) = vv ini ++ [(m :: r).map V.int ++ [V.int n]] := by
              show (ini ++ [(m :: r) ++ [n]]).map _ = _
              rw [List.map_append, List.map_singleton, List.map_append]
              rfl
            rw [ev]
            exact R
    · rintro σ H' ⟨y, qs, rfl, N⟩
      rw [List.length_map, List.take_length] at N
      exact ⟨.ref p, rfl, q H' p qs N⟩

def spBlocks : Sp := fun vs H Q _ => ∃ (a : Addr) (ns : List Int), vs = [.ref a] ∧ H a = some (.lst (ns.map V.int)) ∧ ns.Nodup ∧ ns.length ≤ 4000 ∧
  ∀ H' p qs, NewRows H H' p qs (vv (cut ns)) → Q (.ref p) H'
end
end My
namespace My
open PySem PySem.Spec PyProof.Rows L2 LamX
/-- a family of queues stands at a -/
structure FamAt (H : Hp) (a : Addr) (qs : List Addr) (fam : List (List Int)) : Prop where
  top : H a = some (.lst (qs.map V.ref))
  rows : Rws H qs (vv fam)
theorem FamAt.same {H H' : Hp} {a : Addr} {qs : List Addr} {fam : List (List Int)} (F : FamAt H a qs fam) (s : Same H H') : FamAt H' a qs fam := ⟨s _ _ F.top, F.rows.same s⟩
theorem FamAt.row {H : Hp} {a : Addr} {qs : List Addr} {fam : List (List Int)} (F : FamAt H a qs fam) {i : Nat} {q : Addr} (hq : qs[i]? = some q) : ∃ f, fam[i]? = some f ∧ H q = some (.lst (f.map V.int)) := by
  have hl : i < fam.length := by
    have h1 := (List.getElem?_eq_some_iff.mp hq).1
    have h2 := F.rows.len
    rw [vv_len] at h2
    omega
  have e : fam[i]? = some fam[i] := List.getElem?_eq_getElem hl
  exact ⟨_, e, F.rows.get i q _ hq (by rw [List.getElem?_map, e]; rfl)⟩
theorem FamAt.len {H : Hp} {a : Addr} {qs : List Addr} {fam : List (List Int)} (F : FamAt H a qs fam) : qs.length = fam.length := by
  have h := F.rows.len
  rwa [vv_len] at h
theorem flat_snoc {fam : List (List Int)} {i : Nat} {f : List Int} (h : fam[i]? = some f) : (fam.take (i + 1)).flatten = (fam.take i).flatten ++ f := by
  rw [List.take_add_one, h, List.flatten_append]
  simp
theorem flat_take_len {fam : List (List Int)} (i : Nat) : (fam.take i).flatten.length ≤ fam.flatten.length := by
  have e := congrArg List.length (congrArg List.flatten (List.take_append_drop i fam))
  rw [List.flatten_append, List.length_append] at e
  omega
end My
namespace My
open PySem PySem.Spec PyProof.Rows L2 LamX
/-! blocks with the index of their queue -/
def plc : Nat → List (List Int) → List (Nat × List Int)
  | _, [] => []
  | i, q :: qs => (cut q).map (fun b => (i, b)) ++ plc (i + 1) qs
theorem plc_app : ∀ (xs ys : List (List Int)) (k : Nat), plc k (xs ++ ys) = plc k xs ++ plc (k + xs.length) ys
  | [], ys, k => by simp [plc]
  | x :: xs, ys, k => by
    have e : k + (x :: xs).length = k + 1 + xs.length := by rw [List.length_cons]; omega
    show (cut x).map (fun b => (k, b)) ++ plc (k + 1) (xs ++ ys) = _
    rw [plc_app xs ys (k + 1), e, ← List.append_assoc]
    rfl
theorem plc_snoc {fam : List (List Int)} {i : Nat} {q : List Int} (h : fam[i]? = some q) : plc 0 (fam.take (i + 1)) = plc 0 (fam.take i) ++ (cut q).map (fun b => (i, b)) := by
  have hi := (List.getElem?_eq_some_iff.mp h).1
  rw [List.take_add_one, h, plc_app]
  have e : 0 + (fam.take i).length = i := by rw [List.length_take]; omega
  rw [e]
  simp [plc]
theorem plc_snd : ∀ (fam : List (List Int)) (k : Nat), (plc k fam).map (·.2) = cuts fam
  | [], _ => rfl
  | q :: qs, k => by
    show ((cut q).map (fun b => (k, b)) ++ plc (k + 1) qs).map (·.2) = cut q ++ cuts qs
    rw [List.map_append, plc_snd qs (k + 1), List.map_map]
    have e : ((fun x : Nat × List Int => x.2) ∘ fun b => (k, b)) = id := rfl
    rw [e, List.map_id]
theorem plc_mem : ∀ (fam : List (List Int)) (k : Nat) {r : Nat × List Int}, r ∈ plc k fam → ∃ q, fam[r.1 - k]? = some q ∧ k ≤ r.1 ∧ r.2 ∈ cut q
  | [], _, _, h => by simp [plc] at h
  | q :: qs, k, r, h => by
    rcases List.mem_append.mp h with z | z
    · obtain ⟨b, hb, e⟩ := List.mem_map.mp z
      subst e
      exact ⟨q, by simp, Nat.le_refl _, hb⟩
    · obtain ⟨q2, h1, h2, h3⟩ := plc_mem qs (k + 1) z
      refine ⟨q2, ?_, by omega, h3⟩
      have e : r.1 - k = (r.1 - (k + 1)) + 1 := by omega
      rw [e, List.getElem?_cons_succ]
      exact h1
theorem plc_len (fam : List (List Int)) : (plc 0 fam).length ≤ fam.flatten.length := by
  have h1 := congrArg List.length (plc_snd fam 0)
  rw [List.length_map] at h1
  have h2 := flat_len (bs := cuts fam) fun b hb => by
    obtain ⟨q, _, hq⟩ := cuts_mem hb
    exact (cut_mem hq).1
  rw [cuts_flat] at h2
  omega
def srt (fam : List (List Int)) : List (Nat × List Int) := bySm (fun r : Nat × List Int => hd r.2) (plc 0 fam)
theorem srt_snd {fam : List (List Int)} (nd : fam.flatten.Nodup) : (srt fam).map (·.2) = bySm hd (cuts fam) := by
  refine by_one ?_ (cuts_nd nd) ?_
  · have := (by_perm (fun r : Nat × List Int => hd r.2) (plc 0 fam)).map (·.2)
    rw [plc_snd] at this
    exact this
  · exact List.pairwise_map.mpr (by_sorted (fun r : Nat × List Int => hd r.2) (plc 0 fam))
theorem perm_back {α β : Type} {f : α → β} : ∀ {ys xs : List β}, ys.Perm xs → ∀ zs : List α, xs = zs.map f → ∃ zs' : List α, zs'.Perm zs ∧ ys = zs'.map f := by
  intro ys xs p
  induction p with
  | nil =>
    intro zs e
    exact ⟨[], by rw [List.map_eq_nil_iff.mp e.symm], rfl⟩
  | cons x _ ih =>
    intro zs e
    cases zs with
    | nil => cases e
    | cons z zs =>
      obtain ⟨e1, e2⟩ := List.cons.inj e
      obtain ⟨w, p, e3⟩ := ih zs e2
      exact ⟨z :: w, p.cons z, by rw [e3, e1]; rfl⟩
  | swap x y l =>
    intro zs e
    cases zs with
    | nil => cases e
    | cons z zs =>
      cases zs with
      | nil => cases (List.cons.inj e).2
      | cons z2 zs =>
        obtain ⟨e1, e2⟩ := List.cons.inj e
        obtain ⟨e3, e4⟩ := List.cons.inj e2
        exact ⟨z2 :: z :: zs, List.Perm.swap z z2 zs, by rw [e1, e3, e4]; rfl⟩
  | trans _ _ ih1 ih2 =>
    intro zs e
    obtain ⟨w, p1, e1⟩ := ih2 zs e
    obtain ⟨v, p2, e2⟩ := ih1 w e1
    exact ⟨v, p2.trans p1, e2⟩

end My
namespace My
open PySem PySem.Spec PyProof.Rows L2 LamX
theorem flat_snoc2 {bs : List (List Int)} {i : Nat} {b : List Int} (h : bs[i]? = some b) : (bs.take (i + 1)).flatten = (bs.take i).flatten ++ b := flat_snoc h
theorem srt_flat {fam : List (List Int)} (nd : fam.flatten.Nodup) : ((srt fam).map (·.2)).flatten = mrg fam := by
  rw [srt_snd nd]
  rfl
theorem mrg_len (fam : List (List Int)) : (mrg fam).length = fam.flatten.length := (mrg_perm fam).length_eq
end My
namespace My
open PySem PySem.Spec PyProof.Rows L2 LamX
section
variable {K : PySem.W.Frag} {H0 H H' : Hp} {T : List (Addr × Str)} {L L' : List Cell} {p : Addr} {qs : List Addr} {fam : List (List Int)} {Q : VK} {E : XK}
theorem Own.famAt (B : Own H0 H T L) (p : Addr) [P : Pull L p (.fm p qs (vv fam)) L'] : FamAt H p qs fam := ⟨B.getF p, B.rowsF p⟩
theorem idx_flat {bs : List (List Int)} {i : Nat} {b : List Int} {x : Int} (h : bs[i]? = some b) (hn : x ∉ (bs.take i).flatten) (hx : x ∈ b) : bs.flatten.idxOf x = (bs.take i).flatten.length + b.idxOf x := by
  conv => lhs; rw [split_at h]
  rw [List.flatten_append, List.flatten_cons, List.idxOf_append, if_neg hn, List.idxOf_append, if_pos hx]
  omega
end
end My
namespace My
open PySem PySem.Spec PyProof.Rows L2 LamX
/-! values of any kind: none, bools, ints, texts, lists, tuples, the empty dict -/
/-- a value that stands as long as S is so -/
abbrev Owns (H0 : Hp) (T : List (Addr × Str)) (L : List Cell) : Hp → Prop := fun H' => Own H0 H' T L
mutual
inductive DX (S : Hp → Prop) : V → PyData → Prop
  | non : DX S .non .none
  | bl (b : Bool) : DX S (.bl b) (.bool b)
  | int (i : Int) : DX S (.int i) (.int i)
  | str (x : Str) : DX S (.str x) (.str x)
  | lst {a : Addr} {xs : List V} {ds : List PyData} : (∀ H, S H → H a = some (.lst xs)) → DXs S xs ds → DX S (.ref a) (.list ds)
  | tup {a : Addr} {xs : List V} {ds : List PyData} : (∀ H, S H → H a = some (.tup xs)) → DXs S xs ds → DX S (.ref a) (.tuple ds)
  | emp {a : Addr} : (∀ H, S H → H a = some (.dK [])) → DX S (.ref a) (.dict [])
inductive DXs (S : Hp → Prop) : List V → List PyData → Prop
  | nil : DXs S [] []
  | cons {v : V} {vs : List V} {d : PyData} {ds : List PyData} : DX S v d → DXs S vs ds → DXs S (v :: vs) (d :: ds)
end
mutual
theorem DX.dp {K : PySem.W.Frag} {S : Hp → Prop} {H : Hp} (z : S H) : ∀ (d : PyData) (v : V), DX S v d → d.hasDict = false → Dp K H v d
  | .none, _, h, _ => by cases h; exact .non
  | .bool b, _, h, _ => by cases h; exact .bl b
  | .int i, _, h, _ => by cases h; exact .int i
  | .str x, _, h, _ => by cases h; exact .str x
  | .list ds, _, h, n => by
    cases h with
    | lst e a => exact .lst (SqL.of (e H z)) (DX.dpAll z ds _ a (by simpa [PyData.hasDict] using n))
  | .tuple ds, _, h, n => by
    cases h with
    | tup e a => exact .tup (SqT.of (e H z)) (DX.dpAll z ds _ a (by simpa [PyData.hasDict] using n))
  | .dict _, _, _, n => by simp [PyData.hasDict] at n
theorem DX.dpAll {K : PySem.W.Frag} {S : Hp → Prop} {H : Hp} (z : S H) : ∀ (ds : List PyData) (vs : List V), DXs S vs ds → PyData.hasDictAll ds = false → DpAll K H vs ds
  | [], _, h, _ => by cases h; exact .nil
  | d :: ds, _, h, n => by
    cases h with
    | cons h1 h2 =>
      have n2 : d.hasDict = false ∧ PyData.hasDictAll ds = false := by simpa [PyData.hasDictAll] using n
      exact .cons (DX.dp z d _ h1 n2.1) (DX.dpAll z ds _ h2 n2.2)
end
mutual
theorem DX.mono {S S' : Hp → Prop} (m : ∀ H, S' H → S H) : ∀ (d : PyData) (v : V), DX S v d → DX S' v d
  | .none, _, h => by cases h; exact .non
  | .bool b, _, h => by cases h; exact .bl b
  | .int i, _, h => by cases h; exact .int i
  | .str x, _, h => by cases h; exact .str x
  | .list ds, _, h => by
    cases h with
    | lst e a => exact .lst (fun H z => e H (m H z)) (DXs.mono m ds _ a)
  | .tuple ds, _, h => by
    cases h with
    | tup e a => exact .tup (fun H z => e H (m H z)) (DXs.mono m ds _ a)
  | .dict _, _, h => by
    cases h with
    | emp e => exact .emp (fun H z => e H (m H z))
theorem DXs.mono {S S' : Hp → Prop} (m : ∀ H, S' H → S H) : ∀ (ds : List PyData) (vs : List V), DXs S vs ds → DXs S' vs ds
  | [], _, h => by cases h; exact .nil
  | d :: ds, _, h => by
    cases h with
    | cons h1 h2 => exact .cons (DX.mono m d _ h1) (DXs.mono m ds _ h2)
end
theorem DX.more {H0 : Hp} {T : List (Addr × Str)} {L : List Cell} {c : Cell} {v : V} {d : PyData} (h : DX (Owns H0 T L) v d) : DX (Owns H0 T (c :: L)) v d := h.mono (fun _ B => B.tail) d v
theorem DXs.more {H0 : Hp} {T : List (Addr × Str)} {L : List Cell} {c : Cell} {vs : List V} {ds : List PyData} (h : DXs (Owns H0 T L) vs ds) : DXs (Owns H0 T (c :: L)) vs ds := h.mono (fun _ B => B.tail) ds vs
section
variable {S : Hp → Prop}
theorem DXs.len : ∀ {vs : List V} {ds : List PyData}, DXs S vs ds → vs.length = ds.length
  | _, _, .nil => rfl
  | _, _, .cons _ h => by rw [List.length_cons, List.length_cons, h.len]
theorem DXs.get : ∀ {vs : List V} {ds : List PyData} {i : Nat} {x : V} {d : PyData}, DXs S vs ds → vs[i]? = some x → ds[i]? = some d → DX S x d
  | _, _, 0, _, _, .cons h _, e1, e2 => by cases e1; cases e2; exact h
  | _, _, i + 1, _, _, .cons _ h, e1, e2 => h.get (i := i) e1 e2
  | _, _, 0, _, _, .nil, e1, _ => by cases e1
  | _, _, i + 1, _, _, .nil, e1, _ => by cases e1
theorem DXs.of : ∀ {vs : List V} {ds : List PyData}, vs.length = ds.length → (∀ (i : Nat) (x : V) (d : PyData), vs[i]? = some x → ds[i]? = some d → DX S x d) → DXs S vs ds
  | [], [], _, _ => .nil
  | [], _ :: _, e, _ => by cases e
  | _ :: _, [], e, _ => by cases e
  | v :: vs, d :: ds, e, h => .cons (h 0 v d rfl rfl) (DXs.of (by simpa using e) fun i x d' e1 e2 => h (i + 1) x d' e1 e2)
theorem DXs.app : ∀ {vs ws : List V} {ds es : List PyData}, DXs S vs ds → DXs S ws es → DXs S (vs ++ ws) (ds ++ es)
  | _, _, _, _, .nil, h => h
  | _, _, _, _, .cons h1 h2, h => .cons h1 (h2.app h)
theorem DXs.take : ∀ {vs : List V} {ds : List PyData} (n : Nat), DXs S vs ds → DXs S (vs.take n) (ds.take n)
  | _, _, 0, _ => .nil
  | _, _, n + 1, .nil => .nil
  | _, _, n + 1, .cons h1 h2 => .cons h1 (h2.take n)
theorem DXs.drop : ∀ {vs : List V} {ds : List PyData} (n : Nat), DXs S vs ds → DXs S (vs.drop n) (ds.drop n)
  | _, _, 0, h => h
  | _, _, n + 1, .nil => .nil
  | _, _, n + 1, .cons _ h2 => h2.drop n
theorem DXs.ints : ∀ ns : List Int, DXs S (ns.map V.int) (ns.map PyData.int)
  | [] => .nil
  | n :: ns => .cons (.int n) (DXs.ints ns)
theorem DX.ints {a : Addr} {ns : List Int} (h : ∀ H, S H → H a = some (.lst (ns.map V.int))) : DX S (.ref a) (dI ns) := .lst h (DXs.ints ns)
theorem DXs.fam {qs : List Addr} {fam : List (List Int)} (hl : qs.length = fam.length) (h : ∀ (i : Nat) (q : Addr) (f : List Int), qs[i]? = some q → fam[i]? = some f → ∀ H, S H → H q = some (.lst (f.map V.int))) : DXs S (qs.map V.ref) (fam.map dI) := by
  refine DXs.of (by rw [List.length_map, List.length_map, hl]) fun i x d h1 h2 => ?_
  rw [List.getElem?_map] at h1 h2
  obtain ⟨q, hq, rfl⟩ := Option.map_eq_some_iff.mp h1
  obtain ⟨f, hf, rfl⟩ := Option.map_eq_some_iff.mp h2
  exact DX.ints (h i q f hq hf)
theorem DX.fam {a : Addr} {qs : List Addr} {fam : List (List Int)} (hl : qs.length = fam.length) (F : ∀ H, S H → FamAt H a qs fam) : DX S (.ref a) (dR fam) :=
  .lst (fun H z => (F H z).top) (DXs.fam hl fun i q f h1 h2 H z => (F H z).rows.get i _ _ h1 (vv_get h2))
end
/-- the name of a value's kind -/
def tyN : PyData → String
  | .none => "NoneType"
  | .bool _ => "bool"
  | .int _ => "int"
  | .str _ => "str"
  | .list _ => "list"
  | .tuple _ => "tuple"
  | .dict _ => "dict"
theorem DX.ty {K : PySem.W.Frag} {S : Hp → Prop} {H : Hp} {v : V} {d : PyData} (z : S H) (h : DX S v d) : TyX K H v (.type (tyN d)) := by
  cases h with
  | non => exact .base .non
  | bl b => exact .base (.bl b)
  | int i => exact .base (.int i)
  | str x => exact .base (.str x)
  | lst e _ => exact .base (.lst (e H z))
  | tup e _ => exact .base (.tup (e H z))
  | emp e => exact .base (.dK (e H z))
def isIntB : PyData → Bool
  | .int _ | .bool _ => true
  | _ => false
def isBoolB : PyData → Bool
  | .bool _ => true
  | _ => false
def isListB : PyData → Bool
  | .list _ => true
  | _ => false
def isTupB : PyData → Bool
  | .tuple _ => true
  | _ => false
/-- an integer -/
def isInt : PyData → Bool
  | .int _ => true
  | _ => false
section
variable {K : PySem.W.Frag} {S : Hp → Prop} {H : Hp} {v : V} {d : PyData} {Q : VK}
theorem s_isXi (h : DX S v d) (z : S H) (k : Q (.bl (isIntB d)) H) : rIsi K [v, .ty "int"] H Q := ⟨v, .ty "int", .type (tyN d), .type "int", isIntB d, rfl, .ty _, h.ty z, kit_ty (by cases d <;> simp only [tyN, isIntB] <;> decide +kernel), k⟩
theorem s_isXb (h : DX S v d) (z : S H) (k : Q (.bl (isBoolB d)) H) : rIsi K [v, .ty "bool"] H Q := ⟨v, .ty "bool", .type (tyN d), .type "bool", isBoolB d, rfl, .ty _, h.ty z, kit_ty (by cases d <;> simp only [tyN, isBoolB] <;> decide +kernel), k⟩
theorem s_isXl (h : DX S v d) (z : S H) (k : Q (.bl (isListB d)) H) : rIsi K [v, .ty "list"] H Q := ⟨v, .ty "list", .type (tyN d), .type "list", isListB d, rfl, .ty _, h.ty z, kit_ty (by cases d <;> simp only [tyN, isListB] <;> decide +kernel), k⟩
theorem s_isXt (h : DX S v d) (z : S H) (k : Q (.bl (isTupB d)) H) : rIsi K [v, .ty "tuple"] H Q := ⟨v, .ty "tuple", .type (tyN d), .type "tuple", isTupB d, rfl, .ty _, h.ty z, kit_ty (by cases d <;> simp only [tyN, isTupB] <;> decide +kernel), k⟩
end
theorem DX.list {S : Hp → Prop} {v : V} {d : PyData} (h : DX S v d) (e : isListB d = true) : ∃ a xs ds, v = .ref a ∧ d = .list ds ∧ (∀ H, S H → H a = some (.lst xs)) ∧ DXs S xs ds := by
  cases h with
  | lst h1 h2 => exact ⟨_, _, _, rfl, rfl, h1, h2⟩
  | _ => cases e
theorem DX.intV {S : Hp → Prop} {v : V} {d : PyData} (h : DX S v d) (e : isInt d = true) : ∃ i, v = .int i ∧ d = .int i := by
  cases h with
  | int i => exact ⟨i, rfl, rfl⟩
  | _ => cases e
/-- the ints of a list -/
def intsOf : List PyData → List Int
  | [] => []
  | .int i :: ds => i :: intsOf ds
  | _ :: ds => intsOf ds
theorem ints_all : ∀ {ds : List PyData}, ds.all isInt = true → ds = (intsOf ds).map PyData.int
  | [], _ => rfl
  | .int i :: ds, h => by
    have h2 : ds.all isInt = true := by simpa [isInt] using h
    have := ints_all h2
    show _ = PyData.int i :: (intsOf ds).map PyData.int
    rw [← this]
  | .none :: _, h | .bool _ :: _, h | .str _ :: _, h | .list _ :: _, h | .tuple _ :: _, h | .dict _ :: _, h => by simp [isInt] at h
theorem ints_ofI : ∀ ns : List Int, intsOf (ns.map PyData.int) = ns
  | [] => rfl
  | n :: ns => by
    show n :: intsOf (ns.map PyData.int) = _
    rw [ints_ofI ns]
theorem ints_isI (ns : List Int) : (ns.map PyData.int).all isInt = true := by
  rw [List.all_map]
  exact List.all_eq_true.mpr fun _ _ => rfl
theorem DXs.intsV {S : Hp → Prop} : ∀ {ns : List Int} {xs : List V}, DXs S xs (ns.map PyData.int) → xs = ns.map V.int
  | [], _, h => by cases h; rfl
  | n :: ns, _, h => by
    cases h with
    | cons h1 h2 =>
      cases h1
      rw [h2.intsV]
      rfl
/-- a list of different integers -/
def isNums : PyData → Bool
  | .list ds => ds.all isInt && decide (intsOf ds).Nodup
  | _ => false
/-- what stands in a list -/
def rowOf : PyData → List PyData
  | .list ds => ds
  | _ => []
/-- a list of queues without a number twice -/
def isFam : PyData → Bool
  | .list ds => decide (ds ≠ []) && ds.all isListB && isNums (.list (ds.flatMap rowOf))
  | _ => false
theorem rows_all : ∀ {ds : List PyData}, ds.all isListB = true → (ds.flatMap rowOf).all isInt = true → ds = (ds.map fun d => intsOf (rowOf d)).map dI
  | [], _, _ => rfl
  | .list es :: ds, h1, h2 => by
    have h1' : ds.all isListB = true := by simpa [isListB] using h1
    rw [List.flatMap_cons, List.all_append, Bool.and_eq_true] at h2
    have := rows_all h1' h2.2
    show _ = dI (intsOf es) :: _
    rw [← this]
    have e2 := ints_all (show es.all isInt = true from h2.1)
    show PyData.list es :: ds = PyData.list ((intsOf es).map PyData.int) :: ds
    rw [← e2]
  | .none :: _, h, _ | .bool _ :: _, h, _ | .str _ :: _, h, _ | .int _ :: _, h, _ | .tuple _ :: _, h, _ | .dict _ :: _, h, _ => by simp [isListB] at h
theorem flat_rows (fam : List (List Int)) : (fam.map dI).flatMap rowOf = fam.flatten.map PyData.int := by
  induction fam with
  | nil => rfl
  | cons f fam ih =>
    rw [List.map_cons, List.flatMap_cons, ih, List.flatten_cons, List.map_append]
    rfl
theorem isFam_iff {d : PyData} : isFam d = true ↔ ∃ fam, d = dR fam ∧ fam ≠ [] ∧ fam.flatten.Nodup := by
  constructor
  · intro h
    cases d with
    | list ds =>
      have h2 : (ds ≠ [] ∧ ds.all isListB = true) ∧ (ds.flatMap rowOf).all isInt = true ∧ (intsOf (ds.flatMap rowOf)).Nodup := by
        have h3 : (decide (ds ≠ []) && ds.all isListB && ((ds.flatMap rowOf).all isInt && decide (intsOf (ds.flatMap rowOf)).Nodup)) = true := h
        rw [Bool.and_eq_true, Bool.and_eq_true, Bool.and_eq_true] at h3
        exact ⟨⟨of_decide_eq_true h3.1.1, h3.1.2⟩, h3.2.1, of_decide_eq_true h3.2.2⟩
      obtain ⟨⟨h3, h4⟩, h5, h6⟩ := h2
      have e := rows_all h4 h5
      refine ⟨ds.map fun d => intsOf (rowOf d), ?_, fun z => h3 (List.map_eq_nil_iff.mp z), ?_⟩
      · show PyData.list ds = PyData.list _
        rw [← e]
      · rw [e, flat_rows, ints_ofI] at h6
        exact h6
    | _ => cases h
  · rintro ⟨fam, rfl, h1, h2⟩
    show (decide ((fam.map dI) ≠ []) && (fam.map dI).all isListB && (((fam.map dI).flatMap rowOf).all isInt && decide (intsOf ((fam.map dI).flatMap rowOf)).Nodup)) = true
    have e1 : decide ((fam.map dI) ≠ []) = true := decide_eq_true (fun z => h1 (List.map_eq_nil_iff.mp z))
    have e2 : (fam.map dI).all isListB = true := by rw [List.all_map]; exact List.all_eq_true.mpr fun _ _ => rfl
    rw [flat_rows, ints_ofI, ints_isI, decide_eq_true h2, e1, e2]
    rfl
/-- a family at a, its queues not known to be apart -/
structure FamW (H : Hp) (a : Addr) (qs : List Addr) (fam : List (List Int)) : Prop where
  top : H a = some (.lst (qs.map V.ref))
  len : qs.length = fam.length
  row : ∀ (i : Nat) (q : Addr) (f : List Int), qs[i]? = some q → fam[i]? = some f → H q = some (.lst (f.map V.int))
theorem FamAt.weak {H : Hp} {a : Addr} {qs : List Addr} {fam : List (List Int)} (F : FamAt H a qs fam) : FamW H a qs fam := ⟨F.top, F.len, fun i q f h1 h2 => F.rows.get i _ _ h1 (vv_get h2)⟩
theorem DXs.rowsV {S : Hp → Prop} : ∀ {fam : List (List Int)} {xs : List V}, DXs S xs (fam.map dI) → ∃ qs : List Addr, xs = qs.map V.ref ∧ qs.length = fam.length ∧ ∀ (i : Nat) (q : Addr) (f : List Int), qs[i]? = some q → fam[i]? = some f → ∀ H, S H → H q = some (.lst (f.map V.int))
  | [], _, h => by cases h; exact ⟨[], rfl, rfl, fun i q f h1 => by simp at h1⟩
  | f :: fam, _, h => by
    cases h with
    | cons h1 h2 =>
      obtain ⟨qs, rfl, hl, hr⟩ := h2.rowsV
      cases h1 with
      | @lst a xs _ e1 e2 =>
        have e3 : xs = f.map V.int := e2.intsV
        subst e3
        refine ⟨a :: qs, rfl, by rw [List.length_cons, List.length_cons, hl], fun i q g z1 z2 => ?_⟩
        cases i with
        | zero => cases z1; cases z2; exact e1
        | succ i => exact hr i q g z1 z2
theorem DX.famV {S : Hp → Prop} {v : V} {fam : List (List Int)} (h : DX S v (dR fam)) : ∃ a qs, v = .ref a ∧ ∀ H, S H → FamW H a qs fam := by
  cases h with
  | lst e a =>
    obtain ⟨qs, rfl, hl, hr⟩ := a.rowsV
    exact ⟨_, qs, rfl, fun H z => ⟨e H z, hl, fun i q f h1 h2 => hr i q f h1 h2 H z⟩⟩
theorem DXs.rowsL {S : Hp → Prop} : ∀ {ds : List PyData} {xs : List V}, DXs S xs ds → ds.all isListB = true → ∃ rows : List (List V), rows.length = ds.length ∧
    (∀ (i : Nat) (x : V) (f : List V), xs[i]? = some x → rows[i]? = some f → ∃ q : Addr, x = .ref q ∧ ∀ H, S H → H q = some (.lst f)) ∧ DXs S rows.flatten (ds.flatMap rowOf)
  | [], _, .nil, _ => ⟨[], rfl, fun i x f h => by simp at h, .nil⟩
  | d :: ds, _, .cons h1 h2, h => by
    rw [List.all_cons, Bool.and_eq_true] at h
    obtain ⟨rows, hr1, hr2, hr3⟩ := h2.rowsL h.2
    obtain ⟨a, xs, es, rfl, rfl, e1, e2⟩ := h1.list h.1
    refine ⟨xs :: rows, by rw [List.length_cons, List.length_cons, hr1], fun i x f z1 z2 => ?_, ?_⟩
    · cases i with
      | zero => cases z1; cases z2; exact ⟨a, rfl, e1⟩
      | succ i => exact hr2 i x f z1 z2
    · rw [List.flatten_cons, List.flatMap_cons]
      exact e2.app hr3
end My
namespace My
open PySem PySem.Spec PyProof.Rows L2 LamX
/-! comprehensions over lists of any values -/
theorem zd_snoc {α : Type} {xs : List V} {ds : List PyData} {p : V → PyData → Bool} {g : V → PyData → α} {i : Nat} {x : V} {d : PyData} (h1 : xs[i]? = some x) (h2 : ds[i]? = some d) :
    (((xs.take (i + 1)).zip (ds.take (i + 1))).filter fun z => p z.1 z.2).map (fun z => g z.1 z.2) = (((xs.take i).zip (ds.take i)).filter fun z => p z.1 z.2).map (fun z => g z.1 z.2) ++ (if p x d = true then [g x d] else []) := by
  have hl1 : i < xs.length := (List.getElem?_eq_some_iff.mp h1).1
  have hl2 : i < ds.length := (List.getElem?_eq_some_iff.mp h2).1
  rw [List.take_add_one, List.take_add_one, h1, h2]
  have e : (xs.take i ++ (some x).toList).zip (ds.take i ++ (some d).toList) = (xs.take i).zip (ds.take i) ++ [(x, d)] := by
    rw [List.zip_append (by rw [List.length_take, List.length_take]; omega)]; rfl
  rw [e, List.filter_append, List.map_append]
  congr 1
  cases h : p x d <;> simp [h]
theorem zd_len {α : Type} {xs : List V} {ds : List PyData} {p : V → PyData → Bool} {g : V → PyData → α} : (((xs.zip ds).filter fun z => p z.1 z.2).map (fun z => g z.1 z.2)).length ≤ ds.length := by
  rw [List.length_map]
  refine Nat.le_trans (List.length_filter_le ..) ?_
  rw [List.length_zip]
  omega
section
variable {K : PySem.W.Frag} {H0 H H' : Hp} {T : List (Addr × Str)} {L L' : List Cell} {a p : Addr} {xs : List V} {ds : List PyData} {σ : L2.St} {Q : VK} {kx : Nat} {vs : List Nat} {tt : TT} {te : TE}
/-- [g(x) for x in xs if p(x)] where neither changes anything -/
theorem s_lcD (pp : V → PyData → Bool) (g : V → PyData → V) (B : Own H0 H T L) (A : ∀ H', Own H0 H' T L → H' a = some (.lst xs)) (D : DXs (Owns H0 T L) xs ds) (hsm : ds.length ≤ 100000) (wp : ∀ x : V, wipe ((wipe σ vs).set kx (some x)) vs = wipe σ vs)
    (test : ∀ (D : Addr) (acc : List V) (j : Nat) (x : V) (d : PyData) (H : Hp) (Qb : Bool → Hp → Prop), xs[j]? = some x → ds[j]? = some d → DX (Owns H0 T L) x d → Own H0 H T (.ob D (.lst acc) :: L) → (∀ H', Own H0 H' T (.ob D (.lst acc) :: L) → Qb (pp x d) H') → tt ((wipe σ vs).set kx (some x)) H Qb)
    (elem : ∀ (D : Addr) (acc : List V) (j : Nat) (x : V) (d : PyData) (H : Hp) (Q : VK), xs[j]? = some x → ds[j]? = some d → pp x d = true → DX (Owns H0 T L) x d → Own H0 H T (.ob D (.lst acc) :: L) → (∀ H', Own H0 H' T (.ob D (.lst acc) :: L) → Q (g x d) H') → te ((wipe σ vs).set kx (some x)) H Q)
    (last : ∀ D H, Own H0 H T (.ob D (.lst (((xs.zip ds).filter fun z => pp z.1 z.2).map fun z => g z.1 z.2)) :: L) → Q (.ref D) H) : LcG (Itl K a) (gName kx) tt te vs σ Q H := by
  have hl := D.len
  refine s_lcL (fun i acc M => acc = (((xs.take i).zip (ds.take i)).filter fun z => pp z.1 z.2).map (fun z => g z.1 z.2) ∧ M = L) xs B ⟨by simp, rfl⟩ ?_ wp ?_ ?_
  · rintro i acc M H ⟨_, rfl⟩ B
    exact SqL.of (A _ B)
  · rintro Dc i x acc M H hx ⟨rfl, rfl⟩ B
    have hi := (List.getElem?_eq_some_iff.mp hx).1
    have ed : ds[i]? = some (ds[i]'(by omega)) := List.getElem?_eq_getElem _
    generalize ds[i]'(by omega) = d at ed
    have dx : DX (Owns H0 T M) x d := D.get hx ed
    have sn := zd_snoc (p := pp) (g := g) hx ed
    refine test Dc _ i x d H _ hx ed dx B fun H1 B1 => ?_
    cases hp : pp x d with
    | true =>
      refine iteT (elem Dc _ i x d H1 _ hx ed hp dx B1 fun H2 B2 => ?_)
      refine s_el B2 ?_ ⟨?_, rfl⟩
      · have := zd_len (xs := xs.take i) (ds := ds.take i) (p := pp) (g := g)
        rw [List.length_take] at this
        unfold sizeLine
        omega
      · rw [sn, hp]; rfl
    | false =>
      refine iteF (NoEl.mk B1 ⟨?_, rfl⟩)
      rw [sn, hp]; simp
  · rintro Dc acc M H ⟨rfl, rfl⟩ B
    rw [List.take_length, hl, List.take_length] at B
    exact last Dc H B
/-- [g(x) for x in xs], only what the values are counts -/
theorem s_lcDm (g : PyData → V) (B : Own H0 H T L) (A : ∀ H', Own H0 H' T L → H' a = some (.lst xs)) (D : DXs (Owns H0 T L) xs ds) (hsm : ds.length ≤ 100000) (wp : ∀ x : V, wipe ((wipe σ vs).set kx (some x)) vs = wipe σ vs)
    (elem : ∀ (D : Addr) (acc : List V) (j : Nat) (x : V) (d : PyData) (H : Hp) (Q : VK), xs[j]? = some x → ds[j]? = some d → DX (Owns H0 T L) x d → Own H0 H T (.ob D (.lst acc) :: L) → (∀ H', Own H0 H' T (.ob D (.lst acc) :: L) → Q (g d) H') → te ((wipe σ vs).set kx (some x)) H Q)
    (last : ∀ D H, Own H0 H T (.ob D (.lst (ds.map g)) :: L) → Q (.ref D) H) : LcG (Itl K a) (gName kx) tYes te vs σ Q H := by
  refine s_lcD (fun _ _ => true) (fun _ d => g d) B A D hsm wp (fun D acc j x d H Qb _ _ _ B k => k H B) (fun D acc j x d H Q h1 h2 _ dx B k => elem D acc j x d H Q h1 h2 dx B k) fun Dc H B' => ?_
  rw [List.filter_eq_self.mpr (fun _ _ => rfl)] at B'
  have e : (xs.zip ds).map (fun z => g z.2) = ds.map g := by
    have hl := D.len
    rw [show (xs.zip ds).map (fun z => g z.2) = ((xs.zip ds).map Prod.snd).map g from by rw [List.map_map]; rfl, List.map_snd_zip (by omega)]
  rw [e] at B'
  exact last Dc H B'
variable {kq : Nat} {vs1 : List Nat} {os : List V} {rows : List (List V)}
/-- [y for x in xs for y in x], of any values -/
theorem s_lcFlatV (B : Own H0 H T L) (ft : ∀ H', Own H0 H' T L → H' p = some (.lst os)) (hlq : os.length = rows.length) (hz : rows.flatten.length ≤ 100000)
    (get : ∀ (i : Nat) (x : V) (f : List V), os[i]? = some x → rows[i]? = some f → ∃ q : Addr, x = .ref q ∧ ∀ H', Own H0 H' T L → H' q = some (.lst f))
    (wp : ∀ x : V, wipe ((wipe σ vs).set kq (some x)) vs = wipe σ vs) (gq : ∀ x : V, ((wipe σ vs).set kq (some x))[kq]? = some (some x))
    (wp1 : ∀ x y : V, wipe ((wipe ((wipe σ vs).set kq (some x)) vs1).set kx (some y)) vs1 = wipe ((wipe σ vs).set kq (some x)) vs1) (gx : ∀ x y : V, ((wipe ((wipe σ vs).set kq (some x)) vs1).set kx (some y))[kx]? = some (some y))
    (last : ∀ D H', Own H0 H' T (.ob D (.lst rows.flatten) :: L) → Q (.ref D) H') : Lc2G (Itl K p) (gName kq) tYes (iList K (tVar kq)) (gName kx) tYes (tVar kx) vs vs1 σ Q H := by
  intro D nD
  refine ⟨fun i m H' => m = os.length - i ∧ i ≤ os.length ∧ Own H0 H' T (.ob D (.lst ((rows.take i).flatten)) :: L), ⟨os.length, rfl, Nat.zero_le _, B.new nD trivial⟩, ?_⟩
  rintro i m H' ⟨em, le, B⟩
  have top := ft _ B.tail
  rcases Nat.lt_or_ge i os.length with lt | ge
  · have hq : os[i]? = some os[i] := List.getElem?_eq_getElem lt
    have ef : rows[i]? = some (rows[i]'(by omega)) := List.getElem?_eq_getElem _
    generalize rows[i]'(by omega) = f2 at ef
    obtain ⟨q, eq, hf0⟩ := get i _ _ hq ef
    have hf := hf0 _ B.tail
    refine Or.inr ⟨⟨_, os[i], SqL.of top, hq⟩, fun H' => Own H0 H' T (.ob D (.lst ((rows.take (i + 1)).flatten)) :: L), fun H' e => ⟨os.length - (i + 1), by omega, rfl, lt, e⟩, ?_⟩
    rintro x H' ⟨rfl, fx⟩
    have ex : x = .ref q := by
      have z := fx _ (SqL.of top)
      rw [hq] at z
      rw [← eq]
      exact (Option.some.inj z).symm
    subst ex
    refine ⟨wp _, iteT (B := Own H0 H' T (.ob D (.lst ((rows.take (i + 1)).flatten)) :: L)) ?_⟩
    refine ⟨.ref q, gq _, q, rfl, ⟨_, SqL.of hf⟩, ?_⟩
    refine ⟨fun j k H' => k = f2.length - j ∧ j ≤ f2.length ∧ Own H0 H' T (.ob D (.lst ((rows.take i).flatten ++ f2.take j)) :: L), ⟨f2.length, rfl, Nat.zero_le _, by rw [List.take_zero, List.append_nil]; exact B⟩, ?_⟩
    rintro j k H' ⟨ek, le2, B⟩
    have hf : H' q = some (.lst f2) := hf0 _ B.tail
    rcases Nat.lt_or_ge j f2.length with lt2 | ge2
    · have hn : f2[j]? = some f2[j] := List.getElem?_eq_getElem lt2
      refine Or.inr ⟨⟨_, f2[j], SqL.of hf, hn⟩, fun H' => Own H0 H' T (.ob D (.lst ((rows.take i).flatten ++ f2.take (j + 1))) :: L), fun H' e => ⟨f2.length - (j + 1), by omega, rfl, lt2, e⟩, ?_⟩
      rintro y H' ⟨rfl, fy⟩
      have ey : y = f2[j] := by
        have z := fy _ (SqL.of hf)
        rw [hn] at z
        exact (Option.some.inj z).symm
      rw [ey]
      clear ey fy
      refine ⟨wp1 _ _, iteT (B := Own H0 H' T (.ob D (.lst ((rows.take i).flatten ++ f2.take (j + 1))) :: L)) ?_⟩
      refine ⟨f2[j], gx _ _, _, B.get D, ?_, ?_⟩
      · have h1 := congrArg (fun z => z.flatten.length) (List.take_append_drop (i + 1) rows)
        simp only [List.flatten_append, List.length_append] at h1
        have h2 : (rows.take (i + 1)).flatten = (rows.take i).flatten ++ f2 := by rw [List.take_add_one, ef, List.flatten_append]; simp
        rw [h2, List.length_append] at h1
        rw [List.length_append, List.length_take]
        unfold sizeLine; omega
      · have e : (rows.take i).flatten ++ f2.take j ++ [f2[j]] = (rows.take i).flatten ++ f2.take (j + 1) := by
          rw [List.take_add_one, hn, ← List.append_assoc]; rfl
        rw [e]
        exact (B.wr trivial)
    · refine Or.inl ⟨⟨_, SqL.of hf, ge2⟩, ?_⟩
      rw [List.take_of_length_le ge2] at B
      have h2 : (rows.take (i + 1)).flatten = (rows.take i).flatten ++ f2 := by rw [List.take_add_one, ef, List.flatten_append]; simp
      rw [h2]
      exact B
  · have e : i = os.length := by omega
    subst e
    refine Or.inl ⟨⟨_, SqL.of top, Nat.le_refl _⟩, ?_⟩
    rw [hlq, List.take_length] at B
    exact last D _ B
end
end My
namespace My
open PySem PySem.Spec PyProof.Rows L2 LamX
/-! len(set(xs)), xs a list of ints with doubles -/
theorem first_len {ns : List Int} : ∀ i, i ≤ ns.length → (firstMet (fun i => ns.getD i 0) i).length ≤ i ∧ ((firstMet (fun i => ns.getD i 0) i).length = i → firstMet (fun i => ns.getD i 0) i = ns.take i ∧ (ns.take i).Nodup)
  | 0, _ => ⟨Nat.le_refl _, fun _ => ⟨rfl, List.nodup_nil⟩⟩
  | i + 1, hi => by
    obtain ⟨h1, h2⟩ := first_len (ns := ns) i (Nat.le_of_lt hi)
    have hlt : i < ns.length := hi
    have e1 : ns.getD i 0 = ns[i] := by rw [List.getD_eq_getElem?_getD, List.getElem?_eq_getElem hlt]; rfl
    have e2 : ns.take (i + 1) = ns.take i ++ [ns[i]] := by rw [List.take_add_one, List.getElem?_eq_getElem hlt]; rfl
    rw [firstMet_succ]
    show (if (firstMet (fun i => ns.getD i 0) i).any (· == ns.getD i 0) then _ else _ : List Int).length ≤ _ ∧ ((if (firstMet (fun i => ns.getD i 0) i).any (· == ns.getD i 0) then _ else _ : List Int).length = _ → (if (firstMet (fun i => ns.getD i 0) i).any (· == ns.getD i 0) then _ else _ : List Int) = _ ∧ _)
    rw [e1]
    cases hb : (firstMet (fun i => ns.getD i 0) i).any (· == ns[i]) with
    | true => exact ⟨Nat.le_succ_of_le h1, fun z => by
      have z2 : (firstMet (fun i => ns.getD i 0) i).length = i + 1 := z
      omega⟩
    | false =>
      refine ⟨(show (firstMet (fun i => ns.getD i 0) i ++ [ns[i]]).length ≤ i + 1 by rw [List.length_append]; exact Nat.succ_le_succ h1), fun z => ?_⟩
      have z3 : (firstMet (fun i => ns.getD i 0) i ++ [ns[i]]).length = i + 1 := z
      have z2 : (firstMet (fun i => ns.getD i 0) i).length = i := by rw [List.length_append] at z3; exact Nat.succ.inj z3
      obtain ⟨f, n⟩ := h2 z2
      rw [f] at hb ⊢
      refine ⟨by rw [e2]; rfl, ?_⟩
      rw [e2]
      refine List.nodup_append.mpr ⟨n, by simp, fun x hx y hy e => ?_⟩
      have ey : y = ns[i] := by simpa using hy
      have := List.any_eq_false.mp hb x hx
      rw [e, ey] at this
      simp at this
theorem first_all {ns : List Int} (nd : ns.Nodup) : (firstMet (fun i => ns.getD i 0) ns.length).length = ns.length := by
  rw [RZ.firstMet_nodup nd _ (Nat.le_refl _), List.take_length]
def tLenSetA (K : PySem.W.Frag) (ta : TE) : TE := fun sg H Q => ta sg H fun x H1 => ∃ (l : Addr) (ns : List Int), x = .ref l ∧ SqL K H1 l (ns.map V.int) ∧ ns.length ≤ 4000 ∧ ∀ m : Nat, m ≤ ns.length → (m = ns.length ↔ ns.Nodup) → Q (.int (m : Int)) H1
theorem pe_lenSetA {X : Cx} {a : Expr} {ta : TE} {p p2 q pos : Pos} (hg : Gl X "len") (hm : X.mg "len" = none) (hg2 : Gl X "set") (hm2 : X.mg "set" = none) (ha : PE X a ta) (hc : X.calm = true := by rfl)
    (na : starEach [a] X.env = (false, eval a X.env) :: starEach [] X.env := by rfl) : PE X (.Call (.Name "len" p) [.Call (.Name "set" p2) [a] [] q] [] pos) (tLenSetA X.K ta) := by
  refine ⟨fun pins s sg H Q I h => Call_ (ld_blt I hg hm boot_len ?_)⟩
  refine PyProof.Rows.callWith_builtin1 (PyProof.Rows.args_cons (Call_ (ld_blt I hg2 hm2 boot_set ?_)) rfl) rfl rfl
  refine PyProof.Rows.callWith_type1 (PyProof.Rows.args_cons (thn (ha.run pins s sg H _ I h) fun v s1 ⟨x, H1, I1, r1, q1⟩ => PyProof.Rows.args_nil ?_) na) na rfl
  obtain ⟨l, ns, rfl, hq, hl, q1⟩ := q1
  cases r1
  obtain ⟨its, r, pl, hz⟩ := I1.list hq
  have hlen : its.toArray.size = ns.length := by rw [List.size_toArray, ← r.length, List.length_map]
  refine call_set_list (I1.ok.hd hc) pl.isList (by simpa using RZ.intsAre_vals r) (by rw [hlen]; unfold scanBound; omega) fun h' tk hS hk => PyProof.Rows.args_nil ?_
  rw [hlen] at hS
  obtain ⟨f1, f2⟩ := first_len (ns := ns) ns.length (Nat.le_refl _)
  obtain ⟨o, es, ep, t, ho, hex, hd, _, _, _, hf, hn⟩ := hS
  have I2 : Inv X pins sg H1 { s1 with heap := h', toks := tk } := I1.kept fun b o e => hk b o (Heap.lt_size e) e
  refine call_len_set ho hex hd hf (by rw [hn]; omega) ⟨.int ((firstMet (fun i => ns.getD i 0) ns.length).length : Nat), H1, I2.tok _, ⟨_, by rw [hn]⟩, q1 _ f1 ⟨fun e => ?_, fun n => first_all n⟩⟩
  have := (f2 e).2
  rwa [List.take_length] at this
def LsAt (K : PySem.W.Frag) (x : V) (H1 : Hp) (Q : VK) : Prop := ∃ (l : Addr) (ns : List Int), x = .ref l ∧ SqL K H1 l (ns.map V.int) ∧ ns.length ≤ 4000 ∧ ∀ m : Nat, m ≤ ns.length → (m = ns.length ↔ ns.Nodup) → Q (.int (m : Int)) H1
theorem s_lsA {K : PySem.W.Frag} {ta : TE} {sg : L2.St} {H : Hp} {Q : VK} (k : ta sg H fun x H1 => LsAt K x H1 Q) : tLenSetA K ta sg H Q := k
end My
namespace My
open PySem PySem.Spec PyProof.Rows L2 LamX
local macro_rules | `(tactic| infer_instance) => `(tactic| first
  | with_reducible refine s_var (by with_unfolding_all exact rfl) ?_
  | with_reducible apply s_C
  | with_reducible apply s_op
  | with_reducible apply s_i0
  | with_reducible apply s_seq
  | with_reducible apply s_asg
  | with_reducible apply s_gn
  | with_reducible apply s_nil
  | with_reducible apply s_cons
  | with_reducible apply s_cb
  | with_reducible apply s_call
  | with_reducible apply s_un
  | with_reducible apply s_u
  | with_reducible apply s_test
  | with_reducible apply s_blV
  | with_reducible apply s_eqI
  | with_reducible apply s_neI
  | with_reducible apply s_ifs
  | with_reducible apply s_drop
  | with_reducible apply s_ret
  | with_reducible apply s_lst
  | with_reducible apply s_tup
  | with_reducible apply s_and
  | with_reducible apply s_or
  | with_reducible apply s_not
  | with_reducible apply s_tB
  | with_reducible apply s_bm
  | with_reducible apply s_bm0
  | with_reducible apply s_for
  | with_reducible apply s_iList
  | with_reducible apply s_iTup
  | with_reducible apply s_mndS
  | with_reducible apply s_srtS
  | with_reducible apply s_lc2S
  | with_reducible apply s_remS
  | with_reducible apply s_iRng
  | with_reducible apply s_iEnum
  | with_reducible apply s_iRng3
  | with_reducible apply s_iZip
  | with_reducible apply s_iZip3
  | with_reducible apply s_iRev
  | with_reducible apply s_get2S
  | with_reducible apply s_iEZ
  | with_reducible apply s_sl
  | with_reducible apply s_noPart
  | with_reducible apply s_part
  | with_reducible apply s_partI
  | with_reducible apply s_neS
  | with_reducible apply s_eqS
  | with_reducible apply s_lc
  | with_reducible apply s_dc
  | with_reducible apply s_dg
  | with_reducible apply s_di
  | with_reducible apply s_dni
  | with_reducible apply s_yes
  | with_reducible apply s_chain
  | with_reducible refine s_aug (by with_unfolding_all exact rfl) ?_
  | with_reducible apply s_ip
  | with_reducible apply s_revL
  | with_reducible apply s_gsub
  | with_reducible apply s_gslc
  | with_reducible apply s_parS
  | with_reducible apply s_par
  | with_reducible apply s_gc
  | with_reducible apply s_gnil
  | with_reducible apply s_brk
  | with_reducible apply s_cnt
  | with_reducible apply s_next
  | with_reducible apply s_andV
  | with_reducible apply s_orV
  | with_reducible apply s_notV
  | with_reducible apply s_isB
  | with_reducible apply s_notB
  | with_reducible apply s_max2
  | with_reducible apply s_min2
  | with_reducible apply s_abs
  | with_reducible apply s_intB
  | (with_reducible refine s_len (by assumption) ?_)
  | (with_reducible refine s_lenF (by assumption) ?_)
  | (with_reducible refine s_ty (by assumption) ?_)
  | (with_reducible refine s_tyF (by assumption) ?_)
  | (with_reducible refine s_i (by first | decide | exact cpow_ok (by decide) (by decide) (by decide) | exact cdivw (by decide) (by decide) | exact cmul_l (by decide) (by decide) | exact cmul_r (by decide) (by decide) | omega | exact cmul_l (by omega) (by omega) | exact cmul_r (by omega) (by omega)) ?_))

abbrev nInt : List Str := ["value"]
theorem scInt : FnScope nInt ["value"] (defScope sInt) := ⟨rfl, rfl, rfl, by decide +kernel, rfl, by decide +kernel, by decide +kernel⟩

abbrev nNums : List Str := ["value", "number"]
theorem scNums : FnScope nNums ["value"] (defScope sNums) := ⟨rfl, rfl, rfl, by decide +kernel, rfl, by decide +kernel, by decide +kernel⟩

section
variable {P : Program} {w : World} {K : PySem.W.Frag} {mg : Str → Option Value} {base : Heap}
def spInt : Sp := fun vs H Q _ => ∃ (S : Hp → Prop) (v : V) (d : PyData), vs = [v] ∧ S H ∧ DX S v d ∧ Q (.bl (isInt d)) H
theorem u_int {S : Hp → Prop} {H : Hp} {v : V} {d : PyData} {Q : VK} {E : XK} (z : S H) (D : DX S v d) (k : Q (.bl (isInt d)) H) : spInt [v] H Q E := ⟨S, v, d, rfl, z, D, k⟩
theorem u_intI {H : Hp} {i : Int} {Q : VK} {E : XK} (k : Q (.bl true) H) : spInt [.int i] H Q E := ⟨fun _ => True, .int i, .int i, rfl, trivial, .int i, k⟩
set_option maxHeartbeats 0 in
theorem ok_Int {f : Addr} {fd : FuncData} {k : Nat} (F : Fun K "is_integer" "is_integer" sInt f fd) (Tx : Txt mg)  : FnOk P w K mg base CX0 (k + 1) f fd ["value"] spInt := by
  refine F.ok scInt (fun vs H Q E h => ?_) (fun cdv A outer s H vs Q E hr h => ?_)
  · obtain ⟨_, v, d, rfl, _⟩ := h
    rfl
  · obtain ⟨S, v, d, rfl, z, D, q⟩ := h
    refine ⟨_, (pss_one (ps_ret (pe_and (pe_callB (call_isi) (by rfl) Tx.isi (by decide +kernel) (pa_cons (pv 0) (pa_cons (pe_bltn (by rfl) Tx.int (by decide +kernel) (v := .ty "int") rfl) pa_nil))) (pe_one (pe_not (pe_callB (call_isi) (by rfl) Tx.isi (by decide +kernel) (pa_cons (pv 0) (pa_cons (pe_bltn (by rfl) Tx.bool (by decide +kernel) (v := .ty "bool") rfl) pa_nil)))))))), ?_⟩
    repeat infer_instance
    refine s_isXi D z ?_
    repeat infer_instance
    cases hb : isIntB d with
    | true =>
      refine iteT ?_
      repeat infer_instance
      refine s_isXb D z ?_
      repeat infer_instance
      have e : (!isBoolB d) = isInt d := by cases d <;> first | rfl | cases hb
      rw [e]
      exact q
    | false =>
      refine iteF ?_
      repeat infer_instance
      have e : false = isInt d := by cases d <;> first | rfl | cases hb
      rw [← e] at q
      exact q
def spNums : Sp := fun vs H Q _ => ∃ (H0 : Hp) (T : List (Addr × Str)) (L : List Cell) (v : V) (d : PyData), vs = [v] ∧ Own H0 H T L ∧ DX (Owns H0 T L) v d ∧ (rowOf d).length ≤ 4000 ∧ ∀ H', Own H0 H' T L → Q (.bl (isNums d)) H'
theorem u_nums {H0 H : Hp} {T : List (Addr × Str)} {L : List Cell} {v : V} {d : PyData} {Q : VK} {E : XK} (B : Own H0 H T L) (D : DX (Owns H0 T L) v d) (hl : (rowOf d).length ≤ 4000) (k : ∀ H', Own H0 H' T L → Q (.bl (isNums d)) H') : spNums [v] H Q E := ⟨_, _, _, v, d, rfl, B, D, hl, k⟩
theorem u_numsI {H0 H : Hp} {T : List (Addr × Str)} {L : List Cell} {a : Addr} {ns : List Int} {Q : VK} {E : XK} (B : Own H0 H T L) (A : ∀ H', Own H0 H' T L → H' a = some (.lst (ns.map V.int))) (hl : ns.length ≤ 4000) (nd : ns.Nodup) (k : ∀ H', Own H0 H' T L → Q (.bl true) H') : spNums [.ref a] H Q E := by
  refine u_nums B (DX.ints A) (by show (ns.map PyData.int).length ≤ 4000; rw [List.length_map]; exact hl) ?_
  have e : isNums (dI ns) = true := by
    show ((ns.map PyData.int).all isInt && decide (intsOf (ns.map PyData.int)).Nodup) = true
    rw [ints_isI, ints_ofI, decide_eq_true nd]
    rfl
  rw [e]
  exact k
set_option maxHeartbeats 0 in
theorem ok_Nums {f : Addr} {fd : FuncData} {k : Nat} (F : Fun K "is_numbers" "is_numbers" sNums f fd) (Tx : Txt mg) (C_is_integer : Cal P w K mg base k "is_integer" ["value"] spInt) : FnOk P w K mg base CX0 (k + 1) f fd ["value"] spNums := by
  refine F.ok scNums (fun vs H Q E h => ?_) (fun cdv A outer s H vs Q E hr h => ?_)
  · obtain ⟨_, _, _, v, d, rfl, _⟩ := h
    rfl
  · obtain ⟨H0, T, L, v, d, rfl, B, D, hl, q⟩ := h
    refine ⟨_, (pss_cons (ps_if (pt_not (pt_val (pe_callB (call_isi) (by rfl) Tx.isi (by decide +kernel) (pa_cons (pv 0) (pa_cons (pe_bltn (by rfl) Tx.list (by decide +kernel) (v := .ty "list") rfl) pa_nil)))))
  (pss_one (ps_ret pe_bl)) pss_nil)
 (pss_cons (ps_if (pt_not (pt_val (pe_callB ((cr_all (by rfl))) (by rfl) Tx.all (by decide +kernel) (pa_cons (pe_lc (te := (tCall spInt [] E0 (tCons (tVar 1) tNil))) (tt := tYes) (own := [("number", 1)]) (g := (gName 1)) (by rfl) scNums.nd (pi_list (pv 0)) (blkOk_by (own := [("number", 1)]) (N := nNums) (sc := defScope sNums) (by decide +kernel)) (fun _ _ _ _ _ => (pg_name (i := 1) scNums.nd rfl (Or.inl rfl))) (fun _ _ _ _ _ => pts_nil) (fun _ _ _ _ _ => (pe_cal C_is_integer hr (by rfl) (pa_cons (pv 1) pa_nil)))) pa_nil))))
  (pss_one (ps_ret pe_bl)) pss_nil)
 (pss_one (ps_ret (pe_cmpR op_eq (pe_lenSetA (by rfl) Tx.len (by rfl) Tx.set (pv 0)) (pe_callB (cl_len) (by rfl) Tx.len (by decide +kernel) (pa_cons (pv 0) pa_nil)) (nomark _)))))), ?_⟩
    repeat infer_instance
    refine s_isXl D B ?_
    repeat infer_instance
    cases hb : isListB d with
    | false =>
      refine iteT ?_
      repeat infer_instance
      have e : false = isNums d := by cases d <;> first | rfl | cases hb
      rw [← e] at q
      exact q _ B
    | true =>
      refine iteF ?_
      obtain ⟨a, xs, ds, rfl, rfl, A, Ds⟩ := D.list hb
      have hl' : ds.length ≤ 4000 := hl
      repeat infer_instance
      refine s_itH (A _ B) ?_
      refine s_lcDm (fun d => .bl (isInt d)) B A Ds (by omega) (fun _ => rfl) (fun D acc j x d H Q _ _ dx B k => ?_) fun Dc H B => ?_
      · repeat infer_instance
        exact u_int B dx.more (k H B)
      refine ⟨Dc, ds.map isInt, rfl, SqL.of (by rw [B.get Dc, List.map_map]; rfl), ?_⟩
      repeat infer_instance
      have e1 : (ds.map isInt).all id = ds.all isInt := by rw [List.all_map]; rfl
      rw [e1]
      have B := B.tail
      cases hi : ds.all isInt with
      | false =>
        refine iteT ?_
        repeat infer_instance
        have e : false = isNums (.list ds) := by show false = (ds.all isInt && _); rw [hi]; rfl
        rw [← e] at q
        exact q _ B
      | true =>
        refine iteF ?_
        have ei := ints_all hi
        rw [ei] at Ds
        have ex := Ds.intsV
        subst ex
        have hn : (intsOf ds).length ≤ 4000 := by
          have := congrArg List.length ei
          rw [List.length_map] at this
          omega
        repeat infer_instance
        refine s_lsA ?_
        repeat infer_instance
        refine ⟨a, _, rfl, SqL.of (A _ B), hn, fun m _ hm => ?_⟩
        repeat infer_instance
        refine s_lenH (A _ B) ?_
        repeat infer_instance
        have e : decide ((m : Int) = (((intsOf ds).map V.int).length : Nat)) = isNums (.list ds) := by
          show _ = (ds.all isInt && decide (intsOf ds).Nodup)
          rw [hi, List.length_map, Bool.true_and, Bool.eq_iff_iff]
          simp only [decide_eq_true_eq]
          rw [← hm]
          omega
        rw [e]
        exact q _ B
end
end My
namespace My
open PySem PySem.Spec PyProof.Rows L2 LamX
local macro_rules | `(tactic| infer_instance) => `(tactic| first
  | with_reducible refine s_var (by with_unfolding_all exact rfl) ?_
  | with_reducible apply s_C
  | with_reducible apply s_op
  | with_reducible apply s_i0
  | with_reducible apply s_seq
  | with_reducible apply s_asg
  | with_reducible apply s_gn
  | with_reducible apply s_nil
  | with_reducible apply s_cons
  | with_reducible apply s_cb
  | with_reducible apply s_call
  | with_reducible apply s_un
  | with_reducible apply s_u
  | with_reducible apply s_test
  | with_reducible apply s_blV
  | with_reducible apply s_eqI
  | with_reducible apply s_neI
  | with_reducible apply s_ifs
  | with_reducible apply s_drop
  | with_reducible apply s_ret
  | with_reducible apply s_lst
  | with_reducible apply s_tup
  | with_reducible apply s_and
  | with_reducible apply s_or
  | with_reducible apply s_not
  | with_reducible apply s_tB
  | with_reducible apply s_bm
  | with_reducible apply s_bm0
  | with_reducible apply s_for
  | with_reducible apply s_iList
  | with_reducible apply s_iTup
  | with_reducible apply s_mndS
  | with_reducible apply s_srtS
  | with_reducible apply s_lc2S
  | with_reducible apply s_remS
  | with_reducible apply s_iRng
  | with_reducible apply s_iEnum
  | with_reducible apply s_iRng3
  | with_reducible apply s_iZip
  | with_reducible apply s_iZip3
  | with_reducible apply s_iRev
  | with_reducible apply s_get2S
  | with_reducible apply s_iEZ
  | with_reducible apply s_sl
  | with_reducible apply s_noPart
  | with_reducible apply s_part
  | with_reducible apply s_partI
  | with_reducible apply s_neS
  | with_reducible apply s_eqS
  | with_reducible apply s_lc
  | with_reducible apply s_dc
  | with_reducible apply s_dg
  | with_reducible apply s_di
  | with_reducible apply s_dni
  | with_reducible apply s_yes
  | with_reducible apply s_chain
  | with_reducible refine s_aug (by with_unfolding_all exact rfl) ?_
  | with_reducible apply s_ip
  | with_reducible apply s_revL
  | with_reducible apply s_gsub
  | with_reducible apply s_gslc
  | with_reducible apply s_parS
  | with_reducible apply s_par
  | with_reducible apply s_gc
  | with_reducible apply s_gnil
  | with_reducible apply s_brk
  | with_reducible apply s_cnt
  | with_reducible apply s_next
  | with_reducible apply s_andV
  | with_reducible apply s_orV
  | with_reducible apply s_notV
  | with_reducible apply s_isB
  | with_reducible apply s_notB
  | with_reducible apply s_max2
  | with_reducible apply s_min2
  | with_reducible apply s_abs
  | with_reducible apply s_intB
  | (with_reducible refine s_len (by assumption) ?_)
  | (with_reducible refine s_lenF (by assumption) ?_)
  | (with_reducible refine s_ty (by assumption) ?_)
  | (with_reducible refine s_tyF (by assumption) ?_)
  | (with_reducible refine s_i (by first | decide | exact cpow_ok (by decide) (by decide) (by decide) | exact cdivw (by decide) (by decide) | exact cmul_l (by decide) (by decide) | exact cmul_r (by decide) (by decide) | omega | exact cmul_l (by omega) (by omega) | exact cmul_r (by omega) (by omega)) ?_))

abbrev nIsIndex : List Str := ["value", "many"]
theorem scIsIndex : FnScope nIsIndex ["value", "many"] (defScope sIsIndex) := ⟨rfl, rfl, rfl, by decide +kernel, rfl, by decide +kernel, by decide +kernel⟩

section
variable {P : Program} {w : World} {K : PySem.W.Frag} {mg : Str → Option Value} {base : Heap}
def spIsIndex : Sp := fun vs H Q _ => ∃ i m : Int, vs = [.int i, .int m] ∧ Q (.bl (decide (0 ≤ i ∧ i < m))) H
set_option maxHeartbeats 0 in
theorem ok_IsIndex {f : Addr} {fd : FuncData} {k : Nat} (F : Fun K "is_index" "is_index" sIsIndex f fd) (Tx : Txt mg) (C_is_integer : Cal P w K mg base k "is_integer" ["value"] spInt) : FnOk P w K mg base CX0 (k + 1) f fd ["value", "many"] spIsIndex := by
  refine F.ok scIsIndex (fun vs H Q E h => ?_) (fun cdv A outer s H vs Q E hr h => ?_)
  · obtain ⟨i, m, rfl, _⟩ := h
    rfl
  · obtain ⟨i, m, rfl, q⟩ := h
    refine ⟨_, (pss_one (ps_ret (pe_and (pe_cal C_is_integer hr (by rfl) (pa_cons (pv 0) pa_nil)) (pe_one (pe_chain op_le op_lt pe_int (pv 0) (pv 1)))))), ?_⟩
    repeat infer_instance
    refine u_intI ?_
    repeat infer_instance
    refine iteT ?_
    repeat infer_instance
    refine iteD (fun h1 => ?_) (fun h1 => ?_)
    · repeat infer_instance
      have e : decide (0 ≤ i ∧ i < m) = decide (i < m) := by rw [Bool.eq_iff_iff]; simp [h1]
      rw [← e]
      exact q
    · have e : decide (0 ≤ i ∧ i < m) = false := decide_eq_false fun z => h1 z.1
      rw [e] at q
      exact q
end
end My
namespace My
open PySem PySem.Spec PyProof.Rows L2 LamX
theorem flat_ext {g : List (List Int)} {n : Nat} {f b : List Int} (h : g[n]? = some f) : (g.set n (f ++ b)).flatten.Perm (g.flatten ++ b) := by
  rw [set_at h]
  conv => rhs; rw [split_at h]
  rw [List.flatten_append, List.flatten_append, List.flatten_cons, List.flatten_cons, List.append_assoc, List.append_assoc, List.append_assoc]
  exact List.Perm.append_left _ (List.Perm.append_left _ List.perm_append_comm)
theorem flat_repl {g : List (List Int)} {n : Nat} {f f2 : List Int} {z : Int} (h : g[n]? = some f) (p : (z :: f2).Perm f) : (z :: (g.set n f2).flatten).Perm g.flatten := by
  rw [set_at h]
  conv => rhs; rw [split_at h]
  rw [List.flatten_append, List.flatten_append, List.flatten_cons, List.flatten_cons]
  refine (List.perm_middle (a := z) (l₁ := (g.take n).flatten)).symm.trans (List.Perm.append_left _ ?_)
  exact (show (z :: (f2 ++ (g.drop (n + 1)).flatten)).Perm (f ++ (g.drop (n + 1)).flatten) from p.append_right _)
theorem flat_more {g : List (List Int)} {n : Nat} {f f2 : List Int} {z : Int} (h : g[n]? = some f) (p : f2.Perm (z :: f)) : (g.set n f2).flatten.Perm (z :: g.flatten) := by
  rw [set_at h]
  conv => rhs; rw [split_at h]
  rw [List.flatten_append, List.flatten_append, List.flatten_cons, List.flatten_cons]
  refine List.Perm.trans (List.Perm.append_left _ (p.append_right _)) ?_
  exact List.perm_middle (a := z) (l₁ := (g.take n).flatten)
theorem ins_perm (f : List Int) (m : Nat) (z : Int) : (f.take m ++ [z] ++ f.drop m).Perm (z :: f) := by
  rw [List.append_assoc]
  have h := List.perm_middle (a := z) (l₁ := f.take m) (l₂ := f.drop m)
  rw [List.take_append_drop] at h
  exact h
def rInsert : V → List V → Hp → VK → Prop := fun x vs H Q => ∃ (l : Addr) (xs : List V) (i : Int) (y : V), x = .ref l ∧ vs = [.int i, y] ∧ H l = some (.lst xs) ∧ xs.length < sizeLine ∧ 0 ≤ i ∧ i < 2 ^ 63 ∧
    Q .non (upd H l (.lst (xs.take i.toNat ++ [y] ++ xs.drop i.toNat)))
theorem mt_ins {X : Cx} : MtR X "list.insert" rInsert := mt_insert
section
variable {H0 H : Hp} {T : List (Addr × Str)} {L L' : List Cell} {p q : Addr} {qs : List Addr} {fam : List (List Int)} {f : List Int} {n m : Nat} {y : Int} {Q : VK}
theorem s_insertV (B : Own H0 H T L) (p : Addr) [P : Pull L p (.fm p qs (vv fam)) L'] (h1 : qs[n]? = some q) (h2 : fam[n]? = some f) (h : f.length < sizeLine) (hm : (m : Int) < 2 ^ 63)
    (k : ∀ H', Own H0 H' T (.fm p qs (vv (fam.set n (f.take m ++ [y] ++ f.drop m))) :: L') → Q .non H') : rInsert (.ref q) [.int (m : Int), .int y] H Q := by
  refine ⟨q, f.map V.int, m, .int y, rfl, rfl, B.rowAt p h1 (vv_get h2), by rw [List.length_map]; exact h, by omega, hm, k _ ?_⟩
  have r := (B.pull p).row h1 ((f.map V.int).take m ++ [.int y] ++ (f.map V.int).drop m)
  have e : (f.map V.int).take m ++ [V.int y] ++ (f.map V.int).drop m = (f.take m ++ [y] ++ f.drop m).map V.int := by
    rw [List.map_append, List.map_append, List.map_take, List.map_drop]; rfl
  rw [e, vv_set] at r
  rw [Int.toNat_natCast, e]
  exact r
end
end My
namespace My
open PySem PySem.Spec PyProof.Rows L2 LamX
/-! comprehensions over the queues of a family and over a list of ints -/
theorem zf_snoc {α : Type} {qs : List Addr} {fam : List (List Int)} {p : Addr × List Int → Bool} {g : Addr × List Int → α} {i : Nat} {q : Addr} {f : List Int} (h1 : qs[i]? = some q) (h2 : fam[i]? = some f) :
    (((qs.take (i + 1)).zip (fam.take (i + 1))).filter p).map g = (((qs.take i).zip (fam.take i)).filter p).map g ++ (if p (q, f) = true then [g (q, f)] else []) := by
  have hl1 : i < qs.length := (List.getElem?_eq_some_iff.mp h1).1
  have hl2 : i < fam.length := (List.getElem?_eq_some_iff.mp h2).1
  rw [List.take_add_one, List.take_add_one, h1, h2]
  have e : (qs.take i ++ (some q).toList).zip (fam.take i ++ (some f).toList) = (qs.take i).zip (fam.take i) ++ [(q, f)] := by
    rw [List.zip_append (by rw [List.length_take, List.length_take]; omega)]; rfl
  rw [e, List.filter_append, List.map_append]
  congr 1
  cases h : p (q, f) <;> simp [h]
theorem zf_len {α : Type} {qs : List Addr} {fam : List (List Int)} {p : Addr × List Int → Bool} {g : Addr × List Int → α} : (((qs.zip fam).filter p).map g).length ≤ fam.length := by
  rw [List.length_map]
  refine Nat.le_trans (List.length_filter_le ..) ?_
  rw [List.length_zip]
  omega
section
variable {K : PySem.W.Frag} {H0 H H' : Hp} {T : List (Addr × Str)} {L L' : List Cell} {a p : Addr} {qs : List Addr} {fam : List (List Int)} {ns : List Int} {σ : L2.St} {Q : VK} {kx : Nat} {vs : List Nat} {tt : TT} {te : TE}
theorem s_lcF (pp : Addr × List Int → Bool) (g : Addr × List Int → V) (B : Own H0 H T L) [P : Pull L p (.fm p qs (vv fam)) L'] (hsm : fam.length ≤ 100000) (wp : ∀ x : V, wipe ((wipe σ vs).set kx (some x)) vs = wipe σ vs)
    (test : ∀ (D : Addr) (acc : List V) (j : Nat) (q : Addr) (f : List Int) (H : Hp) (Qb : Bool → Hp → Prop), qs[j]? = some q → fam[j]? = some f → H q = some (.lst (f.map V.int)) → Own H0 H T (.ob D (.lst acc) :: L) → (∀ H', Own H0 H' T (.ob D (.lst acc) :: L) → Qb (pp (q, f)) H') → tt ((wipe σ vs).set kx (some (.ref q))) H Qb)
    (elem : ∀ (D : Addr) (acc : List V) (j : Nat) (q : Addr) (f : List Int) (H : Hp) (Q : VK), qs[j]? = some q → fam[j]? = some f → pp (q, f) = true → H q = some (.lst (f.map V.int)) → Own H0 H T (.ob D (.lst acc) :: L) → (∀ H', Own H0 H' T (.ob D (.lst acc) :: L) → Q (g (q, f)) H') → te ((wipe σ vs).set kx (some (.ref q))) H Q)
    (last : ∀ D H, Own H0 H T (.ob D (.lst (((qs.zip fam).filter pp).map g)) :: L) → Q (.ref D) H) : LcG (Itl K p) (gName kx) tt te vs σ Q H := by
  have hl := B.lenF p
  refine s_lcL (fun i acc M => acc = (((qs.take i).zip (fam.take i)).filter pp).map g ∧ M = L) (qs.map V.ref) B ⟨by simp, rfl⟩ ?_ wp ?_ ?_
  · rintro i acc M H ⟨_, rfl⟩ B
    exact SqL.of (B.getF p)
  · rintro D i v acc M H hv ⟨rfl, rfl⟩ B
    rw [List.getElem?_map] at hv
    obtain ⟨q, hq, rfl⟩ := Option.map_eq_some_iff.mp hv
    obtain ⟨f, ef, hf⟩ := B.tail.rowOf p hq
    have sn := zf_snoc (p := pp) (g := g) hq ef
    refine test D _ i q f H _ hq ef hf B fun H1 B1 => ?_
    cases hp : pp (q, f) with
    | true =>
      refine iteT (elem D _ i q f H1 _ hq ef hp ((B1.tail.rowsF p).get i q _ hq (vv_get ef)) B1 fun H2 B2 => ?_)
      refine s_el B2 ?_ ⟨?_, rfl⟩
      · have := zf_len (qs := qs.take i) (fam := fam.take i) (p := pp) (g := g)
        rw [List.length_take] at this
        unfold sizeLine
        omega
      · rw [sn, hp]; rfl
    | false =>
      refine iteF (NoEl.mk B1 ⟨?_, rfl⟩)
      rw [sn, hp]; simp
  · rintro D acc M H ⟨rfl, rfl⟩ B
    rw [List.length_map, List.take_length, hl, List.take_length] at B
    exact last D H B
theorem s_lcI (pp : Int → Bool) (g : Int → V) (B : Own H0 H T L) (stays : ∀ H, Own H0 H T L → H a = some (.lst (ns.map V.int))) (hsm : ns.length ≤ 100000) (wp : ∀ x : V, wipe ((wipe σ vs).set kx (some x)) vs = wipe σ vs)
    (test : ∀ (D : Addr) (acc : List V) (x : Int) (H : Hp) (Qb : Bool → Hp → Prop), x ∈ ns → Own H0 H T (.ob D (.lst acc) :: L) → (∀ H', Own H0 H' T (.ob D (.lst acc) :: L) → Qb (pp x) H') → tt ((wipe σ vs).set kx (some (.int x))) H Qb)
    (elem : ∀ (D : Addr) (acc : List V) (x : Int) (H : Hp) (Q : VK), x ∈ ns → pp x = true → Own H0 H T (.ob D (.lst acc) :: L) → (∀ H', Own H0 H' T (.ob D (.lst acc) :: L) → Q (g x) H') → te ((wipe σ vs).set kx (some (.int x))) H Q)
    (last : ∀ D H, Own H0 H T (.ob D (.lst ((ns.filter pp).map g)) :: L) → Q (.ref D) H) : LcG (Itl K a) (gName kx) tt te vs σ Q H := by
  refine s_lcL (fun i acc M => acc = ((ns.take i).filter pp).map g ∧ M = L) (ns.map V.int) B ⟨by simp, rfl⟩ ?_ wp ?_ ?_
  · rintro i acc M H ⟨_, rfl⟩ B
    exact SqL.of (stays H B)
  · rintro D i v acc M H hv ⟨rfl, rfl⟩ B
    rw [List.getElem?_map] at hv
    obtain ⟨x, hx, rfl⟩ := Option.map_eq_some_iff.mp hv
    have hm := List.mem_of_getElem? hx
    have hl := (List.getElem?_eq_some_iff.mp hx).1
    have sn : (ns.take (i + 1)).filter pp = (ns.take i).filter pp ++ (if pp x = true then [x] else []) := by
      rw [List.take_add_one, hx, List.filter_append]
      congr 1
      cases h : pp x <;> simp [h]
    refine test D _ x H _ hm B fun H1 B1 => ?_
    cases hp : pp x with
    | true =>
      refine iteT (elem D _ x H1 _ hm hp B1 fun H2 B2 => ?_)
      refine s_el B2 ?_ ⟨?_, rfl⟩
      · have := List.length_filter_le pp (ns.take i)
        rw [List.length_take] at this
        rw [List.length_map]
        unfold sizeLine
        omega
      · rw [sn, hp, if_pos rfl, List.map_append]; rfl
    | false =>
      refine iteF (NoEl.mk B1 ⟨?_, rfl⟩)
      rw [sn, hp]; simp
  · rintro D acc M H ⟨rfl, rfl⟩ B
    rw [List.length_map, List.take_length] at B
    exact last D H B
end
section
variable {K : PySem.W.Frag} {H0 H H' : Hp} {T : List (Addr × Str)} {L L' : List Cell} {p : Addr} {qs : List Addr} {fam : List (List Int)} {σ : L2.St} {Q : VK} {kx : Nat} {vs : List Nat} {te : TE}
/-- [[g(x) for x in queue] for queue in family] -/
theorem s_lcMap (g : Int → Int) (B : Own H0 H T L) [P : Pull L p (.fm p qs (vv fam)) L'] (hn : fam.length ≤ 100000) (wp : ∀ x : V, wipe ((wipe σ vs).set kx (some x)) vs = wipe σ vs)
    (elem : ∀ (D : Addr) (acc : List V) (ls : List Addr) (rows : List (List V)) (j : Nat) (q : Addr) (f : List Int) (H : Hp) (Q : VK), qs[j]? = some q → fam[j]? = some f → Own H0 H T (.ob D (.lst acc) :: .rs ls rows :: L) →
      (∀ r H', Own H0 H' T (.ob r (.lst ((f.map g).map V.int)) :: .ob D (.lst acc) :: .rs ls rows :: L) → Q (.ref r) H') → te ((wipe σ vs).set kx (some (.ref q))) H Q)
    (last : ∀ c ls H, ls.length = fam.length → Own H0 H T (.fm c ls (vv (fam.map (List.map g))) :: L) → Q (.ref c) H) : LcG (Itl K p) (gName kx) tYes te vs σ Q H := by
  have hl := B.lenF p
  refine s_lcL (fun i acc M => ∃ ls : List Addr, ls.length = i ∧ acc = ls.map V.ref ∧ M = .rs ls (vv ((fam.take i).map (List.map g))) :: L) (qs.map V.ref) (Own.rs0 B) ⟨[], rfl, rfl, rfl⟩ ?_ wp ?_ ?_
  · rintro i acc M H ⟨ls, _, _, rfl⟩ B
    exact SqL.of (B.getF p)
  · rintro Dc i x acc M H hx ⟨ls, hls, rfl, rfl⟩ B
    rw [List.getElem?_map] at hx
    obtain ⟨qq, hq, rfl⟩ := Option.map_eq_some_iff.mp hx
    obtain ⟨f1, ef, hf⟩ := B.rowOf p hq
    have hi : i < fam.length := (List.getElem?_eq_some_iff.mp ef).1
    refine s_yes (iteT (elem Dc _ ls _ i qq f1 H _ hq ef B fun l H B => ?_))
    have B2 : Own H0 H T (.rs (ls ++ [l]) (vv ((fam.take i).map (List.map g)) ++ [(f1.map g).map V.int]) :: .ob Dc (.lst (ls.map V.ref)) :: L) := Own.pushR B.arr
    have e2 : vv ((fam.take i).map (List.map g)) ++ [(f1.map g).map V.int] = vv ((fam.take (i + 1)).map (List.map g)) := by rw [List.take_add_one, ef, List.map_append, vv_app]; rfl
    rw [e2] at B2
    refine s_el B2 ?_ ⟨ls ++ [l], by rw [List.length_append, hls]; rfl, by rw [List.map_append]; rfl, rfl⟩
    rw [List.length_map, hls]; unfold sizeLine; omega
  · rintro c acc M H ⟨ls, hls, rfl, rfl⟩ B
    have B := B.closeR
    rw [List.length_map, hl, List.take_length] at B
    exact last c ls H (by rw [hls, List.length_map, hl]) B
end
theorem mem_row {fam : List (List Int)} (nd : fam.flatten.Nodup) {i j : Nat} {x : Int} {f g : List Int} (e1 : fam[i]? = some f) (e2 : fam[j]? = some g) (h1 : x ∈ f) (h2 : x ∈ g) : i = j := by
  rcases Nat.lt_trichotomy i j with h | h | h
  · exfalso
    rw [split_at e2, List.flatten_append, List.flatten_cons] at nd
    have hm : f ∈ fam.take j := List.mem_iff_getElem?.mpr ⟨i, by rw [List.getElem?_take, if_pos h]; exact e1⟩
    exact (List.nodup_append.mp nd).2.2 x (List.mem_flatten.mpr ⟨f, hm, h1⟩) x (List.mem_append_left _ h2) rfl
  · exact h
  · exfalso
    rw [split_at e1, List.flatten_append, List.flatten_cons] at nd
    have hm : g ∈ fam.take i := List.mem_iff_getElem?.mpr ⟨j, by rw [List.getElem?_take, if_pos h]; exact e2⟩
    exact (List.nodup_append.mp nd).2.2 x (List.mem_flatten.mpr ⟨g, hm, h2⟩) x (List.mem_append_left _ h1) rfl
theorem Rws.put0 {H : Hp} {qs : List Addr} {bs : List (List V)} (R : Rws H qs bs) {s : Nat} {e : Addr} {b : List V} (he : H e = some (.lst b)) (n : e ∉ qs) : Rws H (qs.set s e) (bs.set s b) := by
  refine ⟨by rw [List.length_set, List.length_set, R.len], ?_, fun j q c e1 e2 => ?_⟩
  · rw [List.nodup_iff_pairwise_ne, List.pairwise_iff_getElem]
    intro i j hi hj hij
    rw [List.length_set] at hi hj
    rw [List.getElem_set, List.getElem_set]
    by_cases h1 : s = i
    · rw [if_pos h1, if_neg (by omega)]
      exact fun z => n (z ▸ List.getElem_mem _)
    · rw [if_neg h1]
      by_cases h2 : s = j
      · rw [if_pos h2]; exact fun z => n (z ▸ List.getElem_mem _)
      · rw [if_neg h2]; exact (List.pairwise_iff_getElem.mp R.nd) i j hi hj hij
  · by_cases h : s = j
    · subst h
      have hl := (List.getElem?_eq_some_iff.mp e1).1
      have hl2 := (List.getElem?_eq_some_iff.mp e2).1
      rw [List.length_set] at hl hl2
      rw [List.getElem?_set_self hl] at e1
      rw [List.getElem?_set_self hl2] at e2
      cases e1
      cases e2
      exact he
    · rw [List.getElem?_set_ne h] at e1 e2
      exact R.get j q c e1 e2
/-! families put together -/
section
variable {H0 H : Hp} {T : List (Addr × Str)} {L : List Cell} {p pa pb : Addr} {qa qb : List Addr} {ra rb : List (List V)}
theorem Rws.app2 (R1 : Rws H qa ra) (R2 : Rws H qb rb) (n : (qa ++ qb).Nodup) : Rws H (qa ++ qb) (ra ++ rb) := by
  refine ⟨by rw [List.length_append, List.length_append, R1.len, R2.len], n, fun j q b e1 e2 => ?_⟩
  rcases Nat.lt_or_ge j qa.length with z | z
  · rw [List.getElem?_append_left z] at e1
    rw [List.getElem?_append_left (R1.len ▸ z)] at e2
    exact R1.get j q b e1 e2
  · rw [List.getElem?_append_right z] at e1
    rw [List.getElem?_append_right (R1.len ▸ z), ← R1.len] at e2
    exact R2.get _ q b e1 e2
theorem Own.appR (B : Own H0 H T (.rs qa ra :: .rs qb rb :: L)) : Own H0 H T (.rs (qa ++ qb) (ra ++ rb) :: L) :=
  Own.conv (A := [.rs qa ra, .rs qb rb]) (C := [.rs (qa ++ qb) (ra ++ rb)]) B (by
    simp only [foots_cons, Cell.foot]
    show (qa ++ (qb ++ foots [])).Perm ((qa ++ qb) ++ foots [])
    rw [← List.append_assoc]) fun h nd c hc => by
      rw [List.mem_singleton.mp hc]
      refine Rws.app2 (h (.rs qa ra) (by simp)) (h (.rs qb rb) (by simp)) ?_
      have nd2 : (qa ++ (qb ++ [])).Nodup := nd
      rwa [List.append_nil] at nd2
/-- xs + ys of two families: its queues are theirs -/
theorem Own.catF (B : Own H0 H T (.ob p (.lst (qa.map V.ref ++ qb.map V.ref)) :: .fm pa qa ra :: .fm pb qb rb :: L)) : Own H0 H T (.fm p (qa ++ qb) (ra ++ rb) :: L) := by
  have B1 : Own H0 H T (.fm pa qa ra :: .fm pb qb rb :: .ob p (.lst (qa.map V.ref ++ qb.map V.ref)) :: L) := B.arr
  have B2 := B1.openR
  have B3 : Own H0 H T (.fm pb qb rb :: .rs qa ra :: .ob p (.lst (qa.map V.ref ++ qb.map V.ref)) :: L) := B2.arr
  have B4 := B3.openR
  have B5 : Own H0 H T (.rs qa ra :: .rs qb rb :: .ob p (.lst (qa.map V.ref ++ qb.map V.ref)) :: L) := B4.arr
  have B6 := B5.appR
  have B7 : Own H0 H T (.ob p (.lst (qa.map V.ref ++ qb.map V.ref)) :: .rs (qa ++ qb) (ra ++ rb) :: L) := B6.arr
  rw [← List.map_append] at B7
  exact B7.closeR
end
end My
namespace My
open PySem PySem.Spec PyProof.Rows L2 LamX
/-! blocks dealt to queues -/
/-- what the blocks of a list of numbers are like -/
structure Blks (bs : List (List Int)) : Prop where
  ok : ∀ b ∈ bs, b ≠ [] ∧ ∀ x ∈ b, x ≤ hd b
  asc : bs.Pairwise fun x y => hd x < hd y
theorem Blks.cut (q : List Int) : Blks (cut q) := ⟨fun b hb => cut_mem hb, cut_asc q⟩
theorem Blks.sub {bs cs : List (List Int)} (B : Blks bs) (s : cs.Sublist bs) : Blks cs := ⟨fun b hb => B.ok b (s.subset hb), B.asc.sublist s⟩
theorem Blks.cut_eq {bs : List (List Int)} (B : Blks bs) : My.cut bs.flatten = bs := cut_flat B.ok B.asc
def pick (j : Nat) (zs : List (Nat × List Int)) : List (List Int) := (zs.filter fun z => z.1 == j).map (·.2)
def spread (k : Nat) (zs : List (Nat × List Int)) : List (List Int) := (List.range k).map fun j => (pick j zs).flatten
theorem spread_len (k : Nat) (zs : List (Nat × List Int)) : (spread k zs).length = k := by unfold spread; rw [List.length_map, List.length_range]
theorem spread_get {k j : Nat} {zs : List (Nat × List Int)} (h : j < k) : (spread k zs)[j]? = some (pick j zs).flatten := by
  unfold spread
  rw [List.getElem?_map, List.getElem?_range h]; rfl
theorem pick_sub (j : Nat) (zs : List (Nat × List Int)) : (pick j zs).Sublist (zs.map (·.2)) := List.filter_sublist.map _
theorem pick_cut {j : Nat} {zs : List (Nat × List Int)} (B : Blks (zs.map (·.2))) : cut (pick j zs).flatten = pick j zs := (B.sub (pick_sub j zs)).cut_eq
theorem pick_pairs (j : Nat) (zs : List (Nat × List Int)) : (pick j zs).map (fun b => (j, b)) = zs.filter fun z => z.1 == j := by
  unfold pick
  rw [List.map_map]
  have e : ∀ ws : List (Nat × List Int), (∀ w ∈ ws, w.1 = j) → ws.map ((fun b => (j, b)) ∘ fun x => x.2) = ws := by
    intro ws
    induction ws with
    | nil => intro _; rfl
    | cons w ws ih =>
      intro h
      rw [List.map_cons, ih fun x hx => h x (List.mem_cons_of_mem _ hx)]
      have := h w (List.mem_cons_self ..)
      congr 1
      show (j, w.2) = w
      rw [← this]
  exact e _ fun w hw => by simpa using (List.mem_filter.mp hw).2
theorem fm_congr {α β : Type} {f g : α → List β} : ∀ {l : List α}, (∀ x ∈ l, f x = g x) → l.flatMap f = l.flatMap g
  | [], _ => rfl
  | x :: l, h => by
    rw [List.flatMap_cons, List.flatMap_cons, h x (List.mem_cons_self ..), fm_congr fun y hy => h y (List.mem_cons_of_mem _ hy)]
theorem plc_eq : ∀ (fam : List (List Int)) (k : Nat), plc k fam = (List.range fam.length).flatMap fun j => (cut (fam.getD j [])).map fun b => (k + j, b)
  | [], _ => rfl
  | q :: qs, k => by
    show (cut q).map (fun b => (k, b)) ++ plc (k + 1) qs = _
    rw [plc_eq qs (k + 1), List.length_cons, List.range_succ_eq_map, List.flatMap_cons, List.flatMap_map]
    congr 1
    refine fm_congr fun j _ => ?_
    have e : k + 1 + j = k + Nat.succ j := by omega
    rw [e]; rfl
theorem filt_perm (zs : List (Nat × List Int)) : ∀ k : Nat, ((List.range k).flatMap fun j => zs.filter fun z => z.1 == j).Perm (zs.filter fun z => decide (z.1 < k))
  | 0 => by simp
  | k + 1 => by
    rw [List.range_succ, List.flatMap_append, List.flatMap_singleton]
    have ih := (filt_perm zs k).append_right (zs.filter fun z => z.1 == k)
    refine ih.trans ?_
    have h := List.filter_append_perm (fun z : Nat × List Int => decide (z.1 < k)) (zs.filter fun z => decide (z.1 < k + 1))
    rw [List.filter_filter, List.filter_filter] at h
    have e1 : (zs.filter fun z => decide (z.1 < k) && decide (z.1 < k + 1)) = zs.filter fun z => decide (z.1 < k) := by
      refine List.filter_congr fun z _ => ?_
      rw [Bool.eq_iff_iff]; simp; omega
    have e2 : (zs.filter fun z => (!decide (z.1 < k)) && decide (z.1 < k + 1)) = zs.filter fun z => z.1 == k := by
      refine List.filter_congr fun z _ => ?_
      rw [Bool.eq_iff_iff]; simp; omega
    rw [e1, e2] at h
    exact h
theorem spread_srt {k : Nat} {zs : List (Nat × List Int)} (B : Blks (zs.map (·.2))) (hk : ∀ z ∈ zs, z.1 < k) : srt (spread k zs) = zs := by
  have e1 : plc 0 (spread k zs) = (List.range k).flatMap fun j => zs.filter fun z => z.1 == j := by
    rw [plc_eq, spread_len]
    refine fm_congr fun j hj => ?_
    have hjk := List.mem_range.mp hj
    rw [List.getD_eq_getElem?_getD, spread_get hjk, Option.getD_some, pick_cut B, Nat.zero_add, pick_pairs]
  have e2 : (zs.filter fun z => decide (z.1 < k)) = zs := List.filter_eq_self.mpr fun z hz => decide_eq_true (hk z hz)
  have p : (plc 0 (spread k zs)).Perm zs := by rw [e1]; have := filt_perm zs k; rwa [e2] at this
  unfold srt
  have nd : (zs.map fun r : Nat × List Int => hd r.2).Nodup := by
    have := B.asc
    rw [List.pairwise_map] at this
    exact List.Pairwise.map _ (fun a b h => by omega) this
  have so : zs.Pairwise fun a b => hd a.2 ≤ hd b.2 := by
    have := B.asc
    rw [List.pairwise_map] at this
    exact this.imp fun h => by omega
  exact (by_one (g := fun r : Nat × List Int => hd r.2) p.symm ((p.map _).nodup_iff.mpr nd) so).symm
/-- a family is told by its blocks and their queues -/
theorem fam_spread {fam : List (List Int)} (nd : fam.flatten.Nodup) : spread fam.length (srt fam) = fam := by
  refine List.ext_getElem? fun j => ?_
  rcases Nat.lt_or_ge j fam.length with h | h
  · rw [spread_get h, List.getElem?_eq_getElem h]
    congr 1
    have e : pick j (srt fam) = cut fam[j] := by
      have p1 : (srt fam).Perm (plc 0 fam) := by_perm _ _
      have nds : ((srt fam).map fun r : Nat × List Int => hd r.2).Nodup := by
        have e1 : ((srt fam).map fun r : Nat × List Int => hd r.2) = ((srt fam).map (·.2)).map hd := by rw [List.map_map]; rfl
        rw [e1, srt_snd nd]
        exact ((by_perm hd (cuts fam)).map hd).nodup_iff.mpr (cuts_nd nd)
      have p2 : (pick j (srt fam)).Perm (cut fam[j]) := by
        have p3 := (p1.filter fun z => z.1 == j).map (·.2)
        refine p3.trans (List.Perm.of_eq ?_)
        rw [plc_eq, List.filter_flatMap, List.map_flatMap]
        have e2 : ∀ i ∈ List.range fam.length, (((cut (fam.getD i [])).map fun b => (0 + i, b)).filter fun z => z.1 == j).map (·.2) = if i = j then cut fam[j] else [] := by
          intro i hi
          rw [Nat.zero_add]
          by_cases hij : i = j
          · subst hij
            rw [if_pos rfl, List.filter_map]
            have e3 : ((cut (fam.getD i [])).filter ((fun z : Nat × List Int => z.1 == i) ∘ fun b => (i, b))) = cut (fam.getD i []) := List.filter_eq_self.mpr fun b _ => by simp
            rw [e3, List.map_map]
            have e4 : ((fun x : Nat × List Int => x.2) ∘ fun b => (i, b)) = id := rfl
            rw [e4, List.map_id, List.getD_eq_getElem?_getD, List.getElem?_eq_getElem h, Option.getD_some]
          · rw [if_neg hij, List.filter_map]
            have e3 : ((cut (fam.getD i [])).filter ((fun z : Nat × List Int => z.1 == j) ∘ fun b => (i, b))) = [] := List.filter_eq_nil_iff.mpr fun b _ => by simp [hij]
            rw [e3]; rfl
        rw [fm_congr e2]
        have e5 : ∀ n, ((List.range n).flatMap fun i => if i = j then cut fam[j] else []) = if j < n then cut fam[j] else [] := by
          intro n
          induction n with
          | zero => rfl
          | succ n ih =>
            rw [List.range_succ, List.flatMap_append, ih, List.flatMap_singleton]
            by_cases h1 : j < n
            · have h2 : n ≠ j := by omega
              rw [if_pos h1, if_neg h2, if_pos (by omega), List.append_nil]
            · by_cases h2 : n = j
              · rw [if_neg h1, if_pos h2, if_pos (by omega), List.nil_append]
              · rw [if_neg h1, if_neg h2, if_neg (by omega), List.nil_append]
        rw [e5, if_pos h]
      have s1 : (pick j (srt fam)).Pairwise fun a b => hd a ≤ hd b := by
        have := by_sorted (fun r : Nat × List Int => hd r.2) (plc 0 fam)
        unfold pick
        rw [List.pairwise_map]
        exact List.Pairwise.sublist List.filter_sublist this
      have s2 : (cut fam[j]).Pairwise fun a b => hd a ≤ hd b := (cut_asc _).imp fun h => by omega
      have n2 : ((pick j (srt fam)).map hd).Nodup := by
        unfold pick
        rw [List.map_map]
        exact nds.sublist (List.filter_sublist.map _)
      exact sort_one p2 n2 s1 s2
    rw [e]
    exact (good_cut _).flat
  · rw [List.getElem?_eq_none (by rw [spread_len]; exact h), List.getElem?_eq_none h]
theorem srt_blks {fam : List (List Int)} (nd : fam.flatten.Nodup) : Blks ((srt fam).map (·.2)) := by
  have e : (srt fam).map (·.2) = cut (mrg fam) := by rw [cut_mrg nd, srt_snd nd]
  rw [e]; exact Blks.cut _
theorem srt_cut {fam : List (List Int)} (nd : fam.flatten.Nodup) : (srt fam).map (·.2) = cut (mrg fam) := by rw [cut_mrg nd, srt_snd nd]
theorem srt_lt {fam : List (List Int)} : ∀ z ∈ srt fam, z.1 < fam.length := by
  intro z hz
  have h := (by_perm (fun r : Nat × List Int => hd r.2) (plc 0 fam)).mem_iff.mp hz
  obtain ⟨q, h1, _, _⟩ := plc_mem fam 0 h
  exact (List.getElem?_eq_some_iff.mp h1).1
theorem spread_flat {k : Nat} {zs : List (Nat × List Int)} (hk : ∀ z ∈ zs, z.1 < k) : (spread k zs).flatten.Perm (zs.map (·.2)).flatten := by
  have e2 : (zs.filter fun z => decide (z.1 < k)) = zs := List.filter_eq_self.mpr fun z hz => decide_eq_true (hk z hz)
  have p := filt_perm zs k
  rw [e2] at p
  have p2 := (p.map (·.2)).flatten
  refine List.Perm.trans (List.Perm.of_eq ?_) p2
  unfold spread
  rw [List.map_flatMap, ← List.flatMap_def]
  have e : ∀ l : List Nat, (l.flatMap fun j => (pick j zs).flatten) = (l.flatMap fun j => (zs.filter fun z => z.1 == j).map (·.2)).flatten := by
    intro l
    induction l with
    | nil => rfl
    | cons j l ih => rw [List.flatMap_cons, List.flatMap_cons, List.flatten_append, ih]; rfl
  exact e _
/-- the number that digits write -/
def wr (k : Nat) (as : List Nat) : Nat := as.foldl (fun r i => r * k + i) 0
theorem wr_snoc (k : Nat) (as : List Nat) (i : Nat) : wr k (as ++ [i]) = wr k as * k + i := by unfold wr; rw [List.foldl_append]; rfl
theorem wr_inj' {k : Nat} : ∀ (n : Nat) {as bs : List Nat}, as.length = n → bs.length = n → (∀ a ∈ as, a < k) → (∀ b ∈ bs, b < k) → wr k as = wr k bs → as = bs
  | 0, as, bs, h1, h2, _, _, _ => by rw [List.eq_nil_of_length_eq_zero h1, List.eq_nil_of_length_eq_zero h2]
  | n + 1, as, bs, h1, h2, ha, hb, e => by
    rcases List.eq_nil_or_concat as with z | ⟨as, a, z⟩
    · rw [z] at h1; simp at h1
    rw [List.concat_eq_append] at z
    subst z
    rcases List.eq_nil_or_concat bs with z | ⟨bs, c, z⟩
    · rw [z] at h2; simp at h2
    rw [List.concat_eq_append] at z
    subst z
    rw [wr_snoc, wr_snoc] at e
    have h3 : a < k := ha a (by simp)
    have h4 : c < k := hb c (by simp)
    have hk : 0 < k := by omega
    have m1 : (wr k as * k + a) % k = a := by rw [Nat.mul_comm, Nat.mul_add_mod, Nat.mod_eq_of_lt h3]
    have m2 : (wr k bs * k + c) % k = c := by rw [Nat.mul_comm, Nat.mul_add_mod, Nat.mod_eq_of_lt h4]
    have eac : a = c := by rw [← m1, ← m2, e]
    subst eac
    have ew : wr k as = wr k bs := Nat.eq_of_mul_eq_mul_right hk (by omega)
    rw [wr_inj' n (by simpa using h1) (by simpa using h2) (fun x hx => ha x (by simp [hx])) (fun x hx => hb x (by simp [hx])) ew]
theorem wr_inj {k : Nat} {as bs : List Nat} (h : as.length = bs.length) (ha : ∀ a ∈ as, a < k) (hb : ∀ b ∈ bs, b < k) (e : wr k as = wr k bs) : as = bs := wr_inj' as.length rfl h.symm ha hb e
theorem mem_uniq {fam : List (List Int)} (nd : fam.flatten.Nodup) {i j : Nat} {f g : List Int} {x : Int} (h1 : fam[i]? = some f) (h2 : fam[j]? = some g) (hf : x ∈ f) (hg : x ∈ g) : i = j := by
  rcases Nat.lt_trichotomy i j with h | h | h
  · exfalso
    rw [split_at h1, List.flatten_append, List.flatten_cons] at nd
    have h3 : g ∈ fam.drop (i + 1) := List.mem_iff_getElem?.mpr ⟨j - (i + 1), by rw [List.getElem?_drop]; rw [show i + 1 + (j - (i + 1)) = j by omega]; exact h2⟩
    exact (List.nodup_append.mp (List.nodup_append.mp nd).2.1).2.2 x hf x (List.mem_flatten.mpr ⟨g, h3, hg⟩) rfl
  · exact h
  · exfalso
    rw [split_at h2, List.flatten_append, List.flatten_cons] at nd
    have h3 : f ∈ fam.drop (j + 1) := List.mem_iff_getElem?.mpr ⟨i - (j + 1), by rw [List.getElem?_drop]; rw [show j + 1 + (i - (j + 1)) = i by omega]; exact h1⟩
    exact (List.nodup_append.mp (List.nodup_append.mp nd).2.1).2.2 x hg x (List.mem_flatten.mpr ⟨f, h3, hf⟩) rfl
theorem where_blk {fam : List (List Int)} (nd : fam.flatten.Nodup) {i : Nat} {z : Nat × List Int} (h : (srt fam)[i]? = some z) :
    z.1 < fam.length ∧ z.2 ≠ [] ∧ (cut (mrg fam))[i]? = some z.2 ∧ ∀ j f, fam[j]? = some f → (hd z.2 ∈ f ↔ j = z.1) := by
  have hz := List.mem_of_getElem? h
  have h1 := srt_lt z hz
  have hp := (by_perm (fun r : Nat × List Int => hd r.2) (plc 0 fam)).mem_iff.mp hz
  obtain ⟨q, h2, _, h3⟩ := plc_mem fam 0 hp
  rw [Nat.sub_zero] at h2
  have ne := (cut_mem h3).1
  have hin : hd z.2 ∈ q := by
    have := (good_cut q).flat
    rw [← this]
    exact List.mem_flatten.mpr ⟨z.2, h3, hd_mem ne⟩
  refine ⟨h1, ne, by rw [← srt_cut nd, List.getElem?_map, h]; rfl, fun j f hf => ⟨fun hx => mem_uniq nd hf h2 hx hin, fun e => ?_⟩⟩
  rw [e, h2] at hf
  exact Option.some.inj hf ▸ hin
theorem hd0 {b : List Int} (h : b ≠ []) : (b.map V.int)[0]? = some (.int (hd b)) := by
  cases b with
  | nil => exact absurd rfl h
  | cons x r => rfl
theorem pick_snoc (j a : Nat) (zs : List (Nat × List Int)) (b : List Int) : pick j (zs ++ [(a, b)]) = pick j zs ++ (if a = j then [b] else []) := by
  unfold pick
  rw [List.filter_append, List.map_append]
  congr 1
  by_cases h : a = j
  · simp [h]
  · simp [h]
theorem spread_snoc {k a : Nat} {zs : List (Nat × List Int)} {b f : List Int} (e : (spread k zs)[a]? = some f) : spread k (zs ++ [(a, b)]) = (spread k zs).set a (f ++ b) := by
  have ha : a < k := by have := (List.getElem?_eq_some_iff.mp e).1; rwa [spread_len] at this
  refine List.ext_getElem? fun j => ?_
  rcases Nat.lt_or_ge j k with h | h
  · rw [spread_get h, pick_snoc]
    by_cases hj : a = j
    · subst hj
      rw [if_pos rfl, List.getElem?_set_self (by rw [spread_len]; exact h), List.flatten_append]
      rw [spread_get h] at e
      rw [← Option.some.inj e]
      simp
    · rw [if_neg hj, List.append_nil, List.getElem?_set_ne hj, spread_get h]
  · rw [List.getElem?_eq_none (by rw [spread_len]; exact h), List.getElem?_eq_none (by rw [List.length_set, spread_len]; exact h)]
theorem spread_nil (k : Nat) : spread k [] = List.replicate k [] := by
  refine List.ext_getElem? fun j => ?_
  rcases Nat.lt_or_ge j k with h | h
  · rw [spread_get h]
    simp [pick, h]
  · rw [List.getElem?_eq_none (by rw [spread_len]; exact h), List.getElem?_eq_none (by rw [List.length_replicate]; exact h)]
end My
namespace My
open PySem PySem.Spec PyProof.Rows L2 LamX
abbrev nI (as : List Nat) : List Int := as.map fun a : Nat => (a : Int)
theorem u_split {H0 H : Hp} {T : List (Addr × Str)} {L : List Cell} {a : Addr} {ns : List Int} {Q : VK} {E : XK} (B : Own H0 H T L) (h : H a = some (.lst (ns.map V.int))) (hl : ns.length ≤ 4000) (k : ∀ p qs H', Own H0 H' T (.fm p qs (vv (cut ns)) :: L) → Q (.ref p) H') : spSplit [.ref a] H Q E :=
  ⟨a, ns, rfl, h, hl, fun H' p qs N => k p qs H' (B.addF N.same N.freshp N.fresh N.off N.top N.rows)⟩
end My
namespace My
open PySem PySem.Spec PyProof.Rows L2 LamX
theorem lexL_irrefl : ∀ a : List Int, lexL a a = false
  | [] => rfl
  | x :: a => by show (if x = x then lexL a a else decide (x < x)) = false; rw [if_pos rfl]; exact lexL_irrefl a
theorem lexL_trans : ∀ a b c : List Int, lexL a b = true → lexL b c = true → lexL a c = true
  | [], [], c, h, _ => by cases h
  | [], y :: b, [], _, h => by cases h
  | [], y :: b, z :: c, _, _ => rfl
  | x :: a, [], c, h, _ => by cases h
  | x :: a, y :: b, [], _, h => by cases h
  | x :: a, y :: b, z :: c, h1, h2 => by
    have h1 : (if x = y then lexL a b else decide (x < y)) = true := h1
    have h2 : (if y = z then lexL b c else decide (y < z)) = true := h2
    show (if x = z then lexL a c else decide (x < z)) = true
    by_cases e : x = y
    · subst e
      rw [if_pos rfl] at h1
      by_cases f : x = z
      · subst f
        rw [if_pos rfl] at h2 ⊢
        exact lexL_trans a b c h1 h2
      · rw [if_neg f] at h2 ⊢
        exact h2
    · rw [if_neg e] at h1
      have l1 := of_decide_eq_true h1
      by_cases f : y = z
      · subst f
        rw [if_neg e]
        exact h1
      · rw [if_neg f] at h2
        have l2 := of_decide_eq_true h2
        rw [if_neg (by omega)]
        exact decide_eq_true (by omega)
/-! all assignments of n blocks to k queues, in ascending order -/
def allC (k : Nat) : Nat → List (List Nat)
  | 0 => [[]]
  | n + 1 => (allC k n).flatMap fun row => (List.range k).map fun q => row ++ [q]
theorem lexL_app : ∀ (a b x y : List Int), a.length = b.length → lexL a b = true → lexL (a ++ x) (b ++ y) = true
  | [], [], x, y, _, h => by cases h
  | [], _ :: _, _, _, l, _ => by cases l
  | _ :: _, [], _, _, l, _ => by cases l
  | u :: a, v :: b, x, y, l, h => by
    have h : (if u = v then lexL a b else decide (u < v)) = true := h
    show (if u = v then lexL (a ++ x) (b ++ y) else decide (u < v)) = true
    by_cases e : u = v
    · rw [if_pos e] at h ⊢
      exact lexL_app a b x y (Nat.succ.inj l) h
    · rw [if_neg e] at h ⊢; exact h
theorem lexL_same : ∀ (a x y : List Int), lexL (a ++ x) (a ++ y) = lexL x y
  | [], x, y => rfl
  | u :: a, x, y => by
    show (if u = u then lexL (a ++ x) (a ++ y) else decide (u < u)) = lexL x y
    rw [if_pos rfl, lexL_same]
theorem allC_mem (k : Nat) : ∀ (n : Nat) (as : List Nat), as ∈ allC k n ↔ as.length = n ∧ ∀ a ∈ as, a < k
  | 0, as => by
    show as ∈ [[]] ↔ _
    rw [List.mem_singleton, List.length_eq_zero_iff]
    exact ⟨fun h => ⟨h, by rw [h]; exact fun _ z => nomatch z⟩, fun h => h.1⟩
  | n + 1, as => by
    show as ∈ (allC k n).flatMap _ ↔ _
    rw [List.mem_flatMap]
    constructor
    · rintro ⟨row, hr, h⟩
      obtain ⟨q, hq, rfl⟩ := List.mem_map.mp h
      obtain ⟨h1, h2⟩ := (allC_mem k n row).mp hr
      refine ⟨by rw [List.length_append, h1]; rfl, fun a ha => ?_⟩
      rcases List.mem_append.mp ha with z | z
      · exact h2 a z
      · rw [List.mem_singleton.mp z]; exact List.mem_range.mp hq
    · rintro ⟨h1, h2⟩
      have hne : as ≠ [] := fun z => by rw [z] at h1; cases h1
      refine ⟨as.dropLast, (allC_mem k n _).mpr ⟨by rw [List.length_dropLast, h1]; rfl, fun a ha => h2 a ((List.dropLast_sublist _).mem ha)⟩, ?_⟩
      exact List.mem_map.mpr ⟨as.getLast hne, List.mem_range.mpr (h2 _ (List.getLast_mem hne)), List.dropLast_concat_getLast hne⟩
theorem allC_asc (k : Nat) : ∀ n, (allC k n).Pairwise fun a b => lexL (nI a) (nI b) = true
  | 0 => List.pairwise_singleton ..
  | n + 1 => by
    show ((allC k n).flatMap _).Pairwise _
    rw [List.flatMap_def, List.pairwise_flatten]
    constructor
    · intro l hl
      obtain ⟨row, _, rfl⟩ := List.mem_map.mp hl
      rw [List.pairwise_map]
      refine List.pairwise_lt_range.imp fun {i j} hij => ?_
      unfold nI
      rw [List.map_append, List.map_append, lexL_same]
      show (if (i : Int) = (j : Int) then lexL [] [] else decide ((i : Int) < (j : Int))) = true
      rw [if_neg (by omega)]
      exact decide_eq_true (by omega)
    · rw [List.pairwise_map]
      refine (allC_asc k n).imp_of_mem fun {a b} ha hb h x hx y hy => ?_
      obtain ⟨i, _, rfl⟩ := List.mem_map.mp hx
      obtain ⟨j, _, rfl⟩ := List.mem_map.mp hy
      unfold nI at h ⊢
      rw [List.map_append, List.map_append]
      exact lexL_app _ _ _ _ (by rw [List.length_map, List.length_map, ((allC_mem k n a).mp ha).1, ((allC_mem k n b).mp hb).1]) h
theorem allC_len (k : Nat) : ∀ n, (allC k n).length = k ^ n
  | 0 => rfl
  | n + 1 => by
    show ((allC k n).flatMap _).length = _
    rw [List.flatMap_def, List.length_flatten, List.map_map]
    have e : (List.length ∘ fun row : List Nat => (List.range k).map fun q => row ++ [q]) = fun _ => k := by
      funext r; show ((List.range k).map _).length = k; rw [List.length_map, List.length_range]
    rw [e, List.map_const', List.sum_replicate_nat, allC_len k n, Nat.pow_succ]
theorem asc_same : ∀ {l m : List (List Nat)}, l.Pairwise (fun a b => lexL (nI a) (nI b) = true) → m.Pairwise (fun a b => lexL (nI a) (nI b) = true) → (∀ a, a ∈ l ↔ a ∈ m) → l = m
  | [], [], _, _, _ => rfl
  | [], b :: m, _, _, h => absurd ((h b).mpr (List.mem_cons_self ..)) (fun z => nomatch z)
  | a :: l, [], _, _, h => absurd ((h a).mp (List.mem_cons_self ..)) (fun z => nomatch z)
  | a :: l, b :: m, p, q, h => by
    obtain ⟨p1, p2⟩ := List.pairwise_cons.mp p
    obtain ⟨q1, q2⟩ := List.pairwise_cons.mp q
    have irr : ∀ x : List Nat, lexL (nI x) (nI x) = true → False := fun x z => by rw [lexL_irrefl] at z; cases z
    have e : a = b := by
      rcases List.mem_cons.mp ((h a).mp (List.mem_cons_self ..)) with z | z
      · exact z
      rcases List.mem_cons.mp ((h b).mpr (List.mem_cons_self ..)) with y | y
      · exact y.symm
      exact absurd (lexL_trans _ _ _ (q1 a z) (p1 b y)) (irr b)
    subst e
    rw [asc_same p2 q2 fun x => ?_]
    constructor
    · intro hx
      rcases List.mem_cons.mp ((h x).mp (List.mem_cons_of_mem _ hx)) with z | z
      · subst z; exact absurd (p1 x hx) (irr x)
      · exact z
    · intro hx
      rcases List.mem_cons.mp ((h x).mpr (List.mem_cons_of_mem _ hx)) with z | z
      · subst z; exact absurd (q1 x hx) (irr x)
      · exact z
end My
namespace My
open PySem PySem.Spec PyProof.Rows L2 LamX
theorem getD_at {α : Type} {xs : List α} {i : Nat} (d : α) (h : i < xs.length) : xs.getD i d = xs[i] := by rw [List.getD_eq_getElem?_getD, List.getElem?_eq_getElem h, Option.getD_some]
/-! facts about two queues, as nodes that lie in one queue (false) or in different ones (true) -/
abbrev Lk : Type := Nat × Nat × Bool
def sat (q : Nat → Bool) (cs : List Lk) : Prop := ∀ c ∈ cs, (q c.1 ^^ q c.2.1) = c.2.2
/-- what is known: the least node to which each one is bound, and whether it lies in the other queue -/
structure UF (N : Nat) (cs : List Lk) (l : Nat → Nat) (s : Nat → Bool) : Prop where
  le : ∀ n, n < N → l n ≤ n
  top : ∀ n, n < N → l (l n) = l n
  s0 : ∀ n, n < N → s (l n) = false
  iff : ∀ q : Nat → Bool, sat q cs ↔ ∀ n, n < N → q n = (q (l n) ^^ s n)
theorem sat_snoc {q : Nat → Bool} {cs : List Lk} {c : Lk} : sat q (cs ++ [c]) ↔ sat q cs ∧ (q c.1 ^^ q c.2.1) = c.2.2 := by
  unfold sat
  constructor
  · intro h
    exact ⟨fun x hx => h x (List.mem_append_left _ hx), h c (List.mem_append_right _ (List.mem_singleton.mpr rfl))⟩
  · rintro ⟨h1, h2⟩ x hx
    rcases List.mem_append.mp hx with z | z
    · exact h1 x z
    · rw [List.mem_singleton.mp z]; exact h2
theorem UF.start (N : Nat) : UF N [] (fun n => n) (fun _ => false) :=
  ⟨fun _ _ => Nat.le_refl _, fun _ _ => rfl, fun _ _ => rfl, fun q => ⟨fun _ n _ => by simp, fun _ c hc => nomatch hc⟩⟩
section
variable {N : Nat} {cs : List Lk} {l : Nat → Nat} {s : Nat → Bool} {u v : Nat} {a : Bool}
theorem UF.link (U : UF N cs l s) (hu : u < N) (hv : v < N) {q : Nat → Bool} (h : sat q cs) : ((q u ^^ q v) = a) ↔ ((q (l u) ^^ q (l v)) = (s u ^^ s v ^^ a)) := by
  have e1 := (U.iff q).mp h u hu
  have e2 := (U.iff q).mp h v hv
  rw [e1, e2]
  cases q (l u) <;> cases q (l v) <;> cases s u <;> cases s v <;> cases a <;> decide
theorem UF.skip (U : UF N cs l s) (hu : u < N) (hv : v < N) (e : l u = l v) (t : (s u ^^ s v ^^ a) = false) : UF N (cs ++ [(u, v, a)]) l s := by
  refine ⟨U.le, U.top, U.s0, fun q => ?_⟩
  rw [sat_snoc, ← U.iff q]
  refine ⟨fun h => h.1, fun h => ⟨h, (U.link hu hv h).mpr ?_⟩⟩
  rw [e, t]
  cases q (l v) <;> rfl
theorem UF.bad (U : UF N cs l s) (hu : u < N) (hv : v < N) (e : l u = l v) (t : (s u ^^ s v ^^ a) = true) (q : Nat → Bool) : ¬ sat q (cs ++ [(u, v, a)]) := fun h => by
  rw [sat_snoc] at h
  have := (U.link hu hv h.1).mp h.2
  rw [e, t] at this
  cases z : q (l v) <;> rw [z] at this <;> cases this
theorem UF.join (U : UF N cs l s) (hu : u < N) (hv : v < N) {kp dr : Nat} (lt : kp < dr) (e : (l u = kp ∧ l v = dr) ∨ (l u = dr ∧ l v = kp)) :
    UF N (cs ++ [(u, v, a)]) (fun n => if l n = dr then kp else l n) (fun n => if l n = dr then s n ^^ (s u ^^ s v ^^ a) else s n) := by
  have kN : kp < N ∧ dr < N ∧ l kp = kp ∧ l dr = dr ∧ s kp = false ∧ s dr = false := by
    have a1 := U.le u hu
    have a2 := U.le v hv
    have b1 := U.top u hu
    have b2 := U.top v hv
    have c1 := U.s0 u hu
    have c2 := U.s0 v hv
    rcases e with ⟨h1, h2⟩ | ⟨h1, h2⟩
    · rw [h1] at a1 b1 c1; rw [h2] at a2 b2 c2
      exact ⟨by omega, by omega, b1, b2, c1, c2⟩
    · rw [h1] at a1 b1 c1; rw [h2] at a2 b2 c2
      exact ⟨by omega, by omega, b2, b1, c2, c1⟩
  obtain ⟨k1, d1, k2, d2, k3, d3⟩ := kN
  have ne : ¬ kp = dr := by omega
  refine ⟨fun n hn => ?_, fun n hn => ?_, fun n hn => ?_, fun q => ?_⟩
  · have := U.le n hn
    by_cases z : l n = dr
    · rw [if_pos z]; omega
    · rw [if_neg z]; exact this
  · show (if l (if l n = dr then kp else l n) = dr then kp else l (if l n = dr then kp else l n)) = (if l n = dr then kp else l n)
    by_cases z : l n = dr
    · rw [if_pos z, k2, if_neg ne]
    · rw [if_neg z, U.top n hn, if_neg z]
  · show (if l (if l n = dr then kp else l n) = dr then s (if l n = dr then kp else l n) ^^ (s u ^^ s v ^^ a) else s (if l n = dr then kp else l n)) = false
    by_cases z : l n = dr
    · rw [if_pos z, k2, if_neg ne, k3]
    · rw [if_neg z, U.top n hn, if_neg z, U.s0 n hn]
  · show sat q (cs ++ [(u, v, a)]) ↔ ∀ n, n < N → q n = (q (if l n = dr then kp else l n) ^^ (if l n = dr then s n ^^ (s u ^^ s v ^^ a) else s n))
    have key : (q (l u) ^^ q (l v)) = (s u ^^ s v ^^ a) ↔ q dr = (q kp ^^ (s u ^^ s v ^^ a)) := by
      rcases e with ⟨h1, h2⟩ | ⟨h1, h2⟩ <;> rw [h1, h2] <;> cases q kp <;> cases q dr <;> cases (s u ^^ s v ^^ a) <;> decide
    rw [sat_snoc]
    constructor
    · rintro ⟨h1, h2⟩ n hn
      have h3 := key.mp ((U.link hu hv h1).mp h2)
      have h4 := (U.iff q).mp h1 n hn
      by_cases z : l n = dr
      · rw [if_pos z, if_pos z, h4, z, h3]
        cases q kp <;> cases s n <;> cases (s u ^^ s v ^^ a) <;> decide
      · rw [if_neg z, if_neg z]; exact h4
    · intro h
      have h3 : q dr = (q kp ^^ (s u ^^ s v ^^ a)) := by
        have := h dr d1
        rw [d2, if_pos rfl, if_pos rfl, d3] at this
        rw [this]
        cases q kp <;> cases (s u ^^ s v ^^ a) <;> decide
      have h1 : sat q cs := (U.iff q).mpr fun n hn => by
        have h4 := h n hn
        by_cases z : l n = dr
        · rw [if_pos z, if_pos z] at h4
          rw [h4, z, h3]
          cases q kp <;> cases s n <;> cases (s u ^^ s v ^^ a) <;> decide
        · rw [if_neg z, if_neg z] at h4; exact h4
      exact ⟨h1, (U.link hu hv h1).mpr (key.mpr h3)⟩
end
/-! assignments of the blocks 1, 2, .. to two queues; node 0 lies in queue 0 -/
def qOf (as : List Nat) : Nat → Bool
  | 0 => false
  | n + 1 => as.getD n 0 == 1
def satB (cs : List Lk) (as : List Nat) : Bool := cs.all fun c => (qOf as c.1 ^^ qOf as c.2.1) == c.2.2
theorem satB_iff {cs : List Lk} {as : List Nat} : satB cs as = true ↔ sat (qOf as) cs := by
  unfold satB sat
  rw [List.all_eq_true]
  exact ⟨fun h c hc => eq_of_beq (h c hc), fun h c hc => beq_iff_eq.mpr (h c hc)⟩
/-- the assignments that satisfy, ascending -/
def due (cs : List Lk) (b : Nat) : List (List Nat) := (allC 2 b).filter (satB cs)
theorem due_mem {cs : List Lk} {b : Nat} {as : List Nat} : as ∈ due cs b ↔ (as.length = b ∧ ∀ a ∈ as, a < 2) ∧ sat (qOf as) cs := by
  unfold due
  rw [List.mem_filter, allC_mem, satB_iff]
theorem due_asc (cs : List Lk) (b : Nat) : (due cs b).Pairwise fun a c => lexL (nI a) (nI c) = true := (allC_asc 2 b).filter _
theorem due_nd (cs : List Lk) (b : Nat) : (due cs b).Nodup := (due_asc cs b).imp fun h e => by subst e; rw [lexL_irrefl] at h; cases h
def bitN (x : Bool) : Nat := if x then 1 else 0
theorem bitN_lt (x : Bool) : bitN x < 2 := by cases x <;> decide
theorem bitN_eq (x : Bool) : (bitN x == 1) = x := by cases x <;> rfl
theorem bitN_of {a : Nat} (h : a < 2) : bitN (a == 1) = a := by
  have : a = 0 ∨ a = 1 := by omega
  rcases this with rfl | rfl <;> rfl
theorem qOf_at {as : List Nat} {i : Nat} (h : i < as.length) (l : ∀ a ∈ as, a < 2) : as.getD i 0 = bitN (qOf as (i + 1)) := by
  show _ = bitN (as.getD i 0 == 1)
  rw [bitN_of]
  rw [getD_at _ h]
  exact l _ (List.getElem_mem h)
/-- nodes up to b -/
def Upto (b : Nat) (cs : List Lk) : Prop := ∀ c ∈ cs, c.1 ≤ b ∧ c.2.1 ≤ b
theorem due_nil {cs : List Lk} {b : Nat} (up : Upto b cs) : due cs b = [] ↔ ∀ q, ¬ sat q cs := by
  constructor
  · intro h q hq
    have : (List.range b).map (fun i => bitN (q (i + 1) ^^ q 0)) ∈ due cs b := by
      rw [due_mem]
      refine ⟨⟨by rw [List.length_map, List.length_range], fun a ha => ?_⟩, fun c hc => ?_⟩
      · obtain ⟨i, _, rfl⟩ := List.mem_map.mp ha
        exact bitN_lt _
      · have e : ∀ n, n ≤ b → qOf ((List.range b).map (fun i => bitN (q (i + 1) ^^ q 0))) n = (q n ^^ q 0) := fun n hn => by
          cases n with
          | zero => show false = _; cases q 0 <;> rfl
          | succ n =>
            show (((List.range b).map (fun i => bitN (q (i + 1) ^^ q 0))).getD n 0 == 1) = _
            rw [getD_at _ (by rw [List.length_map, List.length_range]; omega), List.getElem_map, List.getElem_range, bitN_eq]
        obtain ⟨h1, h2⟩ := up c hc
        rw [e _ h1, e _ h2, ← hq c hc]
        cases q c.1 <;> cases q c.2.1 <;> cases q 0 <;> rfl
    rw [h] at this
    cases this
  · intro h
    cases e : due cs b with
    | nil => rfl
    | cons as r => exact absurd (due_mem.mp (by rw [e]; exact List.mem_cons_self ..)).2 (h _)
/-- the leaders that are not bound to queue 0 -/
def freeL (b : Nat) (l : Nat → Nat) : List Nat := (List.range' 1 b).filter fun n => l n == n
theorem freeL_mem {b : Nat} {l : Nat → Nat} {n : Nat} : n ∈ freeL b l ↔ (1 ≤ n ∧ n ≤ b) ∧ l n = n := by
  unfold freeL
  rw [List.mem_filter, List.mem_range'_1, beq_iff_eq]
  constructor <;> rintro ⟨h1, h2⟩ <;> exact ⟨by omega, h2⟩
theorem freeL_asc (b : Nat) (l : Nat → Nat) : (freeL b l).Pairwise (· < ·) := (List.pairwise_lt_range' (s := 1) (n := b)).filter _
/-- the queue of a leader -/
def ldq (fr ds : List Nat) (m : Nat) : Bool := if m = 0 then false else ds.getD (fr.idxOf m) 0 == 1
def fill (b : Nat) (l : Nat → Nat) (s : Nat → Bool) (ds : List Nat) : List Nat := (List.range b).map fun i => bitN (ldq (freeL b l) ds (l (i + 1)) ^^ s (i + 1))
theorem fill_len (b : Nat) (l : Nat → Nat) (s : Nat → Bool) (ds : List Nat) : (fill b l s ds).length = b := by unfold fill; rw [List.length_map, List.length_range]
theorem fill_lt (b : Nat) (l : Nat → Nat) (s : Nat → Bool) (ds : List Nat) : ∀ a ∈ fill b l s ds, a < 2 := fun a ha => by
  obtain ⟨i, _, rfl⟩ := List.mem_map.mp ha
  exact bitN_lt _
theorem fill_q {b : Nat} {l : Nat → Nat} {s : Nat → Bool} {ds : List Nat} {i : Nat} (h : i < b) : qOf (fill b l s ds) (i + 1) = (ldq (freeL b l) ds (l (i + 1)) ^^ s (i + 1)) := by
  show ((fill b l s ds).getD i 0 == 1) = _
  rw [getD_at _ (by rw [fill_len]; exact h)]
  unfold fill
  rw [List.getElem_map, List.getElem_range, bitN_eq]
theorem fill_at {b : Nat} {l : Nat → Nat} {s : Nat → Bool} {ds : List Nat} {i : Nat} (h : i < b) (h1 : i < (fill b l s ds).length) : (fill b l s ds)[i] = bitN (ldq (freeL b l) ds (l (i + 1)) ^^ s (i + 1)) := by simp [fill]
theorem lex_at : ∀ {a b : List Nat} {i : Nat} {x y : Nat}, a.length = b.length → a.take i = b.take i → a[i]? = some x → b[i]? = some y → x < y → lexL (nI a) (nI b) = true
  | [], _, _, _, _, _, _, h, _, _ => by simp at h
  | _ :: _, [], _, _, _, l, _, _, _, _ => by cases l
  | u :: a, w :: b, 0, x, y, l, e, h1, h2, h => by
    cases h1
    cases h2
    show (if (u : Int) = (w : Int) then _ else decide ((u : Int) < (w : Int))) = true
    rw [if_neg (by omega)]
    exact decide_eq_true (by omega)
  | u :: a, w :: b, i + 1, x, y, l, e, h1, h2, h => by
    rw [List.take_succ_cons, List.take_succ_cons] at e
    injection e with e1 e2
    subst e1
    show (if (u : Int) = (u : Int) then lexL (nI a) (nI b) else _) = true
    rw [if_pos rfl]
    exact lex_at (Nat.succ.inj l) e2 h1 h2 h
theorem lex_first : ∀ {a b : List Nat}, a.length = b.length → lexL (nI a) (nI b) = true → ∃ i x y, a.take i = b.take i ∧ a[i]? = some x ∧ b[i]? = some y ∧ x < y
  | [], [], _, h => by cases h
  | [], _ :: _, l, _ => by cases l
  | _ :: _, [], l, _ => by cases l
  | u :: a, w :: b, l, h => by
    have h : (if (u : Int) = (w : Int) then lexL (nI a) (nI b) else decide ((u : Int) < (w : Int))) = true := h
    by_cases e : (u : Int) = (w : Int)
    · rw [if_pos e] at h
      obtain ⟨i, x, y, h1, h2, h3, h4⟩ := lex_first (Nat.succ.inj l) h
      have e : u = w := by omega
      subst e
      exact ⟨i + 1, x, y, by rw [List.take_succ_cons, List.take_succ_cons, h1], h2, h3, h4⟩
    · rw [if_neg e] at h
      have := of_decide_eq_true h
      exact ⟨0, u, w, rfl, rfl, rfl, by omega⟩
theorem idx_lt {fr : List Nat} (asc : fr.Pairwise (· < ·)) {i : Nat} {m n : Nat} (h : fr[i]? = some m) (hn : n ∈ fr) (lt : n < m) : fr.idxOf n < i := by
  have hl := List.idxOf_lt_length_iff.mpr hn
  have e : fr[fr.idxOf n] = n := List.getElem_idxOf hl
  obtain ⟨hi, e2⟩ := List.getElem?_eq_some_iff.mp h
  rcases Nat.lt_or_ge (fr.idxOf n) i with z | z
  · exact z
  · rcases Nat.eq_or_lt_of_le z with z | z
    · subst z
      omega
    · have := List.pairwise_iff_getElem.mp asc i (fr.idxOf n) hi hl z
      omega
theorem UF.due {b : Nat} {cs : List Lk} {l : Nat → Nat} {s : Nat → Bool} (U : UF (b + 1) cs l s) : due cs b = (allC 2 (freeL b l).length).map (fill b l s) := by
  have z1 : l 0 = 0 := Nat.le_zero.mp (U.le 0 (Nat.succ_pos b))
  have z2 : s 0 = false := by have := U.s0 0 (Nat.succ_pos b); rwa [z1] at this
  have fr : ∀ n, n ≤ b → l n = 0 ∨ l n ∈ freeL b l := fun n hn => by
    rcases Nat.eq_zero_or_pos (l n) with h | h
    · exact .inl h
    · have := U.le n (by omega)
      exact .inr (freeL_mem.mpr ⟨⟨h, by omega⟩, U.top n (by omega)⟩)
  refine asc_same (due_asc cs b) ?_ fun as => ?_
  · rw [List.pairwise_map]
    refine (allC_asc 2 _).imp_of_mem fun {d1 d2} h1 h2 h => ?_
    obtain ⟨l1, b1⟩ := (allC_mem 2 _ _).mp h1
    obtain ⟨l2, b2⟩ := (allC_mem 2 _ _).mp h2
    obtain ⟨i, x, y, e1, e2, e3, e4⟩ := lex_first (by rw [l1, l2]) h
    have hi : i < (freeL b l).length := by rw [← l1]; exact (List.getElem?_eq_some_iff.mp e2).1
    have em : (freeL b l)[i]? = some (freeL b l)[i] := List.getElem?_eq_getElem hi
    have mm := freeL_mem.mp (List.getElem_mem hi)
    generalize (freeL b l)[i] = m at em mm
    obtain ⟨⟨m1, m2⟩, m3⟩ := mm
    have ix : (freeL b l).idxOf m = i := by
      obtain ⟨_, e⟩ := List.getElem?_eq_some_iff.mp em
      rw [← e]
      exact List.Nodup.idxOf_getElem ((freeL_asc b l).imp Nat.ne_of_lt) i hi
    have sm : s m = false := by have := U.s0 m (by omega); rwa [m3] at this
    have vx : x < 2 := b1 x (List.mem_of_getElem? e2)
    have vy : y < 2 := b2 y (List.mem_of_getElem? e3)
    have at' : ∀ (ds : List Nat) (z : Nat), ds[i]? = some z → z < 2 → (fill b l s ds)[m - 1]? = some z := fun ds z hz lz => by
      unfold fill
      rw [List.getElem?_map, List.getElem?_range (by omega)]
      show some (bitN (ldq (freeL b l) ds (l (m - 1 + 1)) ^^ s (m - 1 + 1))) = some z
      rw [show m - 1 + 1 = m by omega, m3, sm]
      unfold ldq
      rw [if_neg (by omega), ix, List.getD_eq_getElem?_getD, hz, Option.getD_some, Bool.xor_false, bitN_of lz]
    refine lex_at (i := m - 1) (by rw [fill_len, fill_len]) ?_ (at' d1 x e2 vx) (at' d2 y e3 vy) e4
    unfold fill
    rw [← List.map_take, ← List.map_take, List.take_range]
    refine List.map_congr_left fun j hj => ?_
    have hj := List.mem_range.mp hj
    have : ldq (freeL b l) d1 (l (j + 1)) = ldq (freeL b l) d2 (l (j + 1)) := by
      rcases fr (j + 1) (by omega) with h | h
      · rw [h]; rfl
      · have h1 := (freeL_mem.mp h).1.1
        have h2 := U.le (j + 1) (by omega)
        have h3 := idx_lt (freeL_asc b l) em h (by omega)
        unfold ldq
        rw [if_neg (by omega), if_neg (by omega)]
        have h4 : (d1.take i)[(freeL b l).idxOf (l (j + 1))]? = (d2.take i)[(freeL b l).idxOf (l (j + 1))]? := by rw [e1]
        rw [List.getElem?_take_of_lt h3, List.getElem?_take_of_lt h3] at h4
        rw [List.getD_eq_getElem?_getD, List.getD_eq_getElem?_getD, h4]
    rw [this]
  · rw [due_mem, List.mem_map]
    constructor
    · rintro ⟨⟨hl, hb⟩, hs⟩
      have hq := (U.iff (qOf as)).mp hs
      refine ⟨(freeL b l).map fun n => as.getD (n - 1) 0, (allC_mem 2 _ _).mpr ⟨by rw [List.length_map], fun a ha => ?_⟩, ?_⟩
      · obtain ⟨n, hn, rfl⟩ := List.mem_map.mp ha
        have := (freeL_mem.mp hn).1
        rw [getD_at _ (by omega)]
        exact hb _ (List.getElem_mem _)
      · refine List.ext_getElem (by rw [fill_len, hl]) fun i h1 h2 => ?_
        have hi : i < b := by rwa [fill_len] at h1
        have e1 := qOf_at h2 hb
        rw [getD_at _ h2] at e1
        rw [e1, hq (i + 1) (by omega)]
        rw [fill_at hi]
        congr 2
        rcases fr (i + 1) (by omega) with h | h
        · rw [h]; rfl
        · have h3 := (freeL_mem.mp h).1
          unfold ldq
          rw [if_neg (by omega), List.getD_eq_getElem?_getD, List.getElem?_map]
          have h4 := List.idxOf_lt_length_iff.mpr h
          rw [List.getElem?_eq_getElem h4, List.getElem_idxOf h4]
          obtain ⟨k, hk⟩ : ∃ k, l (i + 1) = k + 1 := ⟨l (i + 1) - 1, by omega⟩
          rw [hk]
          rfl
    · rintro ⟨ds, hd, rfl⟩
      refine ⟨⟨fill_len .., fun a ha => fill_lt _ _ _ _ a ha⟩, (U.iff _).mpr fun n hn => ?_⟩
      cases n with
      | zero => rw [z1, z2]; rfl
      | succ i =>
        rw [fill_q (by omega)]
        congr 1
        rcases fr (i + 1) (by omega) with h | h
        · rw [h]; rfl
        · have h3 := (freeL_mem.mp h)
          obtain ⟨k, hk⟩ : ∃ k, l (i + 1) = k + 1 := ⟨l (i + 1) - 1, by omega⟩
          rw [hk] at h3 ⊢
          rw [fill_q (by omega), h3.2]
          have := U.s0 (i + 1) hn
          rw [hk] at this
          rw [this, Bool.xor_false]
end My
namespace My
open PySem PySem.Spec PyProof.Rows L2 LamX
/-! facts, as they stand -/
abbrev Fc : Type := Str × Int × Int
def fcO (f : Fc) : HO := .tup [.str f.1, .int f.2.1, .int f.2.2]
def fcD (f : Fc) : PyData := .tuple [.str f.1, .int f.2.1, .int f.2.2]
/-- a fact about the numbers -/
def okF (ns : List Int) (f : Fc) : Prop := f.2.1 ∈ ns ∧ ((f.1 = "in" ∧ (f.2.2 = 0 ∨ f.2.2 = 1)) ∨ ((f.1 = "same" ∨ f.1 = "apart") ∧ f.2.2 ∈ ns ∧ f.2.1 ≠ f.2.2))
structure FcsAt (H : Hp) (a : Addr) (ts : List Addr) (fs : List Fc) : Prop where
  top : H a = some (.lst (ts.map V.ref))
  len : ts.length = fs.length
  row : ∀ (i : Nat) (t : Addr) (f : Fc), ts[i]? = some t → fs[i]? = some f → H t = some (fcO f)
/-- the block of a number, from 1 on -/
def ndF (ns : List Int) (x : Int) : Nat := (cut ns).findIdx (fun b => decide (x ∈ b)) + 1
def lkF (ns : List Int) (f : Fc) : Lk := if f.1 = "in" then (ndF ns f.2.1, 0, f.2.2 == 1) else (ndF ns f.2.1, ndF ns f.2.2, decide (f.1 = "apart"))
def dueF (ns : List Int) (fs : List Fc) : List (List Nat) := due (fs.map (lkF ns)) (cut ns).length
theorem nd_le {ns : List Int} {x : Int} (h : x ∈ ns) : ndF ns x ≤ (cut ns).length := by
  unfold ndF
  have : (cut ns).findIdx (fun b => decide (x ∈ b)) < (cut ns).length := by
    refine List.findIdx_lt_length_of_exists ?_
    have h2 : x ∈ (cut ns).flatten := by rw [(good_cut ns).flat]; exact h
    obtain ⟨b, hb, hx⟩ := List.mem_flatten.mp h2
    exact ⟨b, hb, decide_eq_true hx⟩
  omega
theorem lk_le {ns : List Int} {f : Fc} (h : okF ns f) : (lkF ns f).1 ≤ (cut ns).length ∧ (lkF ns f).2.1 ≤ (cut ns).length := by
  obtain ⟨h1, h2⟩ := h
  unfold lkF
  rcases h2 with ⟨e, h3⟩ | ⟨e, h3, h4⟩
  · rw [if_pos e]
    exact ⟨nd_le h1, Nat.zero_le _⟩
  · rw [if_neg (by rcases e with e | e <;> rw [e] <;> decide +kernel)]
    exact ⟨nd_le h1, nd_le h3⟩
theorem up_of {ns : List Int} {fs : List Fc} (h : ∀ f ∈ fs, okF ns f) : Upto (cut ns).length (fs.map (lkF ns)) := fun c hc => by
  obtain ⟨f, hf, rfl⟩ := List.mem_map.mp hc
  exact lk_le (h f hf)
theorem dueF_nil {ns : List Int} {fs : List Fc} (h : ∀ f ∈ fs, okF ns f) : dueF ns fs = [] ↔ ∀ q, ¬ sat q (fs.map (lkF ns)) := due_nil (up_of h)
section
variable {K : PySem.W.Frag} {H0 H : Hp} {T : List (Addr × Str)} {L : List Cell} {Q : VK} {σ : L2.St}
theorem s_gtH {a : Addr} {n : Nat} {xs : List V} {t : TGs} {Qs : L2.St → Hp → Prop} (h : H a = some (.tup xs)) (hl : xs.length = n) (k : t xs σ H Qs) : gTup K n t (.ref a) σ H Qs := ⟨a, xs, rfl, SqT.of h, hl, k⟩
/-- kind in ("same", "apart") -/
theorem s_inSS {a : Addr} {x y z : Str} (h : H a = some (.tup [.str y, .str z])) (k : Q (.bl (decide (x = y ∨ x = z))) H) : rIn K false (.str x) (.ref a) H Q := by
  refine ⟨a, [.str y, .str z], rfl, .inr (SqT.of h), rfl, rfl, ?_⟩
  have e : inV (.str x) [.str y, .str z] = decide (x = y ∨ x = z) := by
    show ((eqV (.str y) (.str x)) || ((eqV (.str z) (.str x)) || false)) = _
    have e1 : ∀ u w : Str, eqV (.str u) (.str w) = decide (u = w) := fun u w => by
      show (u == w) = _
      rw [Bool.eq_iff_iff, beq_iff_eq, decide_eq_true_iff]
    rw [e1, e1, Bool.or_false, Bool.eq_iff_iff, Bool.or_eq_true, decide_eq_true_iff, decide_eq_true_iff, decide_eq_true_iff]
    constructor
    · rintro (h | h)
      · exact .inl h.symm
      · exact .inr h.symm
    · rintro (h | h)
      · exact .inl h.symm
      · exact .inr h.symm
  rw [show (if false = true then !inV (V.str x) [.str y, .str z] else inV (V.str x) [.str y, .str z]) = inV (V.str x) [.str y, .str z] from rfl, e]
  exact k
theorem s_isStr {x : Str} (k : Q (.bl true) H) : rIsi K [.str x, .ty "str"] H Q := ⟨.str x, .ty "str", .type "str", .type "str", true, rfl, .ty _, .base (.str x), kit_ty (by decide +kernel), k⟩
theorem s_isL {a : Addr} {xs : List V} (h : H a = some (.lst xs)) (k : Q (.bl true) H) : rIsi K [.ref a, .ty "list"] H Q := ⟨.ref a, .ty "list", .type "list", .type "list", true, rfl, .ty _, .base (.lst h), kit_ty (by decide +kernel), k⟩
theorem bx (a b : Bool) : Builtin.bitXor (bitN a : Int) (bitN b : Int) = (bitN (a ^^ b) : Int) := by cases a <;> cases b <;> decide +kernel
end
end My
namespace My
open PySem PySem.Spec PyProof.Rows L2 LamX
local macro_rules | `(tactic| infer_instance) => `(tactic| first
  | with_reducible refine s_var (by with_unfolding_all exact rfl) ?_
  | with_reducible apply s_C
  | with_reducible apply s_op
  | with_reducible apply s_i0
  | with_reducible apply s_seq
  | with_reducible apply s_asg
  | with_reducible apply s_gn
  | with_reducible apply s_nil
  | with_reducible apply s_cons
  | with_reducible apply s_cb
  | with_reducible apply s_call
  | with_reducible apply s_un
  | with_reducible apply s_u
  | with_reducible apply s_test
  | with_reducible apply s_blV
  | with_reducible apply s_eqI
  | with_reducible apply s_neI
  | with_reducible apply s_ifs
  | with_reducible apply s_drop
  | with_reducible apply s_ret
  | with_reducible apply s_lst
  | with_reducible apply s_tup
  | with_reducible apply s_and
  | with_reducible apply s_or
  | with_reducible apply s_not
  | with_reducible apply s_tB
  | with_reducible apply s_bm
  | with_reducible apply s_bm0
  | with_reducible apply s_for
  | with_reducible apply s_iList
  | with_reducible apply s_iTup
  | with_reducible apply s_mndS
  | with_reducible apply s_srtS
  | with_reducible apply s_lc2S
  | with_reducible apply s_remS
  | with_reducible apply s_iRng
  | with_reducible apply s_iEnum
  | with_reducible apply s_iRng3
  | with_reducible apply s_iZip
  | with_reducible apply s_iZip3
  | with_reducible apply s_iRev
  | with_reducible apply s_get2S
  | with_reducible apply s_iEZ
  | with_reducible apply s_sl
  | with_reducible apply s_noPart
  | with_reducible apply s_part
  | with_reducible apply s_partI
  | with_reducible apply s_neS
  | with_reducible apply s_eqS
  | with_reducible apply s_lc
  | with_reducible apply s_dc
  | with_reducible apply s_dg
  | with_reducible apply s_di
  | with_reducible apply s_dni
  | with_reducible apply s_yes
  | with_reducible apply s_chain
  | with_reducible refine s_aug (by with_unfolding_all exact rfl) ?_
  | with_reducible apply s_ip
  | with_reducible apply s_revL
  | with_reducible apply s_gsub
  | with_reducible apply s_gslc
  | with_reducible apply s_parS
  | with_reducible apply s_par
  | with_reducible apply s_gc
  | with_reducible apply s_gnil
  | with_reducible apply s_brk
  | with_reducible apply s_cnt
  | with_reducible apply s_next
  | with_reducible apply s_andV
  | with_reducible apply s_orV
  | with_reducible apply s_notV
  | with_reducible apply s_isB
  | with_reducible apply s_notB
  | with_reducible apply s_max2
  | with_reducible apply s_min2
  | with_reducible apply s_abs
  | with_reducible apply s_intB
  | (with_reducible refine s_len (by assumption) ?_)
  | (with_reducible refine s_lenF (by assumption) ?_)
  | (with_reducible refine s_ty (by assumption) ?_)
  | (with_reducible refine s_tyF (by assumption) ?_)
  | (with_reducible refine s_i (by first | decide | exact cpow_ok (by decide) (by decide) (by decide) | exact cdivw (by decide) (by decide) | exact cmul_l (by decide) (by decide) | exact cmul_r (by decide) (by decide) | omega | exact cmul_l (by omega) (by omega) | exact cmul_r (by omega) (by omega)) ?_))

abbrev nIsNumberOf : List Str := ["result", "value"]
theorem scIsNumberOf : FnScope nIsNumberOf ["result", "value"] (defScope sIsNumberOf) := ⟨rfl, rfl, rfl, by decide +kernel, rfl, by decide +kernel, by decide +kernel⟩

abbrev nIsFact : List Str := ["result", "value", "kind", "one", "other"]
theorem scIsFact : FnScope nIsFact ["result", "value"] (defScope sIsFact) := ⟨rfl, rfl, rfl, by decide +kernel, rfl, by decide +kernel, by decide +kernel⟩

abbrev nAllFacts : List Str := ["result", "value", "fact"]
theorem scAllFacts : FnScope nAllFacts ["result", "value"] (defScope sAllFacts) := ⟨rfl, rfl, rfl, by decide +kernel, rfl, by decide +kernel, by decide +kernel⟩

abbrev nReq : List Str := ["value"]
theorem scReq : FnScope nReq ["value"] (defScope sReq) := ⟨rfl, rfl, rfl, by decide +kernel, rfl, by decide +kernel, by decide +kernel⟩

abbrev nRequireFacts : List Str := ["result", "facts"]
theorem scRequireFacts : FnScope nRequireFacts ["result", "facts"] (defScope sRequireFacts) := ⟨rfl, rfl, rfl, by decide +kernel, rfl, by decide +kernel, by decide +kernel⟩

section
variable {P : Program} {w : World} {K : PySem.W.Frag} {mg : Str → Option Value} {base : Heap}
def spIsNumberOf : Sp := fun vs H Q _ => ∃ (a : Addr) (ns : List Int) (i : Int), vs = [.ref a, .int i] ∧ H a = some (.lst (ns.map V.int)) ∧ Q (.bl (decide (i ∈ ns))) H
set_option maxHeartbeats 0 in
theorem ok_IsNumberOf {f : Addr} {fd : FuncData} {k : Nat} (F : Fun K "is_number_of" "is_number_of" sIsNumberOf f fd) (Tx : Txt mg) (C_is_integer : Cal P w K mg base k "is_integer" ["value"] spInt) : FnOk P w K mg base CX0 (k + 1) f fd ["result", "value"] spIsNumberOf := by
  refine F.ok scIsNumberOf (fun vs H Q E h => ?_) (fun cdv A outer s H vs Q E hr h => ?_)
  · obtain ⟨a, ns, i, rfl, _⟩ := h
    rfl
  · obtain ⟨a, ns, i, rfl, hA, q⟩ := h
    refine ⟨_, (pss_one (ps_ret (pe_and (pe_cal C_is_integer hr (by rfl) (pa_cons (pv 1) pa_nil)) (pe_one (pe_cmpR op_in_seq (pv 1) (pv 0) (by rfl)))))), ?_⟩
    repeat infer_instance
    refine u_intI ?_
    repeat infer_instance
    refine iteT ?_
    repeat infer_instance
    exact s_inI hA q
def spIsFact : Sp := fun vs H Q _ => ∃ (H0 : Hp) (T : List (Addr × Str)) (L : List Cell) (a t : Addr) (ns : List Int) (f : Fc), vs = [.ref a, .ref t] ∧ Own H0 H T L ∧ (∀ H', Own H0 H' T L → H' a = some (.lst (ns.map V.int))) ∧ (∀ H', Own H0 H' T L → H' t = some (fcO f)) ∧ okF ns f ∧ ∀ H', Own H0 H' T L → Q (.bl true) H'
set_option maxHeartbeats 0 in
theorem ok_IsFact {f : Addr} {fd : FuncData} {k : Nat} (F : Fun K "is_fact" "is_fact" sIsFact f fd) (Tx : Txt mg) (C_is_index : Cal P w K mg base k "is_index" ["value", "many"] spIsIndex) (C_is_number_of : Cal P w K mg base k "is_number_of" ["result", "value"] spIsNumberOf) : FnOk P w K mg base CX0 (k + 1) f fd ["result", "value"] spIsFact := by
  refine F.ok scIsFact (fun vs H Q E h => ?_) (fun cdv A outer s H vs Q E hr h => ?_)
  · obtain ⟨_, _, _, a, t, ns, f, rfl, _⟩ := h
    rfl
  · obtain ⟨H0, T, L, a, t, ns, f, rfl, B, A, F, ⟨h1, h2⟩, q⟩ := h
    refine ⟨_, (pss_cons (ps_if (PW.pt (pw_or (pt_not (pt_val (pe_callB (call_isi) (by rfl) Tx.isi (by decide +kernel) (pa_cons (pv 1) (pa_cons (pe_bltn (by rfl) Tx.tuple (by decide +kernel) (v := .ty "tuple") rfl) pa_nil))))) (pw_or1 (pt_cmpR op_ne (pe_callB (cl_len) (by rfl) Tx.len (by decide +kernel) (pa_cons (pv 1) pa_nil)) pe_int (by rfl)))))
  (pss_one (ps_ret pe_bl)) pss_nil)
 (pss_cons (ps_asg (pv 1) (pg_tup (by rfl) (pgs_cons (pg_name (i := 2) scIsFact.nd rfl (Or.inl rfl)) (pgs_cons (pg_name (i := 3) scIsFact.nd rfl (Or.inl rfl)) (pgs_cons (pg_name (i := 4) scIsFact.nd rfl (Or.inl rfl)) pgs_nil)))))
 (pss_cons (ps_if (PW.pt (pw_or (pt_not (pt_val (pe_callB (call_isi) (by rfl) Tx.isi (by decide +kernel) (pa_cons (pv 2) (pa_cons (pe_bltn (by rfl) Tx.str (by decide +kernel) (v := .ty "str") rfl) pa_nil))))) (pw_or1 (pt_not (pt_val (pe_cal C_is_number_of hr (by rfl) (pa_cons (pv 0) (pa_cons (pv 3) pa_nil))))))))
  (pss_one (ps_ret pe_bl)) pss_nil)
 (pss_cons (ps_if (pt_cmpR op_eq (pv 2) pe_str (by rfl))
  (pss_one (ps_ret (pe_cal C_is_index hr (by rfl) (pa_cons (pv 4) (pa_cons pe_int pa_nil))))) pss_nil)
 (pss_one (ps_ret (pe_and (pe_cmpR op_in_seq (pv 2) (pe_tup (pa_cons pe_str (pa_cons pe_str pa_nil))) (by rfl)) (pe_and (pe_cal C_is_number_of hr (by rfl) (pa_cons (pv 0) (pa_cons (pv 4) pa_nil))) (pe_one (pe_cmpR op_ne (pv 3) (pv 4) (by rfl))))))))))), ?_⟩
    repeat infer_instance
    refine s_isTup (F _ B) ?_
    repeat infer_instance
    refine iteF ?_
    repeat infer_instance
    refine s_lenT (F _ B) ?_
    repeat infer_instance
    refine iteF ?_
    repeat infer_instance
    refine s_gtH (F _ B) rfl ?_
    repeat infer_instance
    refine s_isStr ?_
    repeat infer_instance
    refine iteF ?_
    repeat infer_instance
    refine ⟨a, ns, _, rfl, A _ B, ?_⟩
    repeat infer_instance
    rw [decide_eq_true h1]
    refine iteF ?_
    repeat infer_instance
    rcases h2 with ⟨e, h3⟩ | ⟨e, h3, h4⟩
    · rw [e]
      refine iteT ?_
      repeat infer_instance
      refine ⟨_, _, rfl, ?_⟩
      rw [decide_eq_true (by rcases h3 with h | h <;> rw [h] <;> decide)]
      exact q _ B
    · have ne : ¬ f.1 = "in" := by rcases e with e | e <;> rw [e] <;> decide +kernel
      rw [decide_eq_false ne]
      refine iteF ?_
      repeat infer_instance
      refine s_newT B (show 2 ≤ sizeLine from by decide) fun k1 H B => ?_
      refine s_inSS (B.get k1) ?_
      repeat infer_instance
      rw [decide_eq_true e]
      refine iteT ?_
      repeat infer_instance
      refine ⟨a, ns, _, rfl, A _ B.tail, ?_⟩
      repeat infer_instance
      rw [decide_eq_true h3]
      refine iteT ?_
      repeat infer_instance
      rw [decide_eq_false h4]
      exact q _ B.tail
def spAllFacts : Sp := fun vs H Q _ => ∃ (H0 : Hp) (T : List (Addr × Str)) (L : List Cell) (a b : Addr) (ns : List Int) (ts : List Addr) (fs : List Fc), vs = [.ref a, .ref b] ∧ Own H0 H T L ∧ (∀ H', Own H0 H' T L → H' a = some (.lst (ns.map V.int))) ∧ (∀ H', Own H0 H' T L → FcsAt H' b ts fs) ∧ (∀ f ∈ fs, okF ns f) ∧ fs.length ≤ 1000 ∧ ∀ H', Own H0 H' T L → Q (.bl true) H'
set_option maxHeartbeats 0 in
theorem ok_AllFacts {f : Addr} {fd : FuncData} {k : Nat} (F : Fun K "all_facts" "all_facts" sAllFacts f fd) (Tx : Txt mg) (C_is_fact : Cal P w K mg base k "is_fact" ["result", "value"] spIsFact) : FnOk P w K mg base CX0 (k + 1) f fd ["result", "value"] spAllFacts := by
  refine F.ok scAllFacts (fun vs H Q E h => ?_) (fun cdv A outer s H vs Q E hr h => ?_)
  · obtain ⟨_, _, _, a, b, ns, ts, fs, rfl, _⟩ := h
    rfl
  · obtain ⟨H0, T, L, a, b, ns, ts, fs, rfl, B, A, F, ok, hl, q⟩ := h
    refine ⟨_, (pss_one (ps_ret (pe_and (pe_callB (call_isi) (by rfl) Tx.isi (by decide +kernel) (pa_cons (pv 1) (pa_cons (pe_bltn (by rfl) Tx.list (by decide +kernel) (v := .ty "list") rfl) pa_nil))) (pe_one (pe_callB ((cr_all (by rfl))) (by rfl) Tx.all (by decide +kernel) (pa_cons (pe_lc (te := (tCall spIsFact [] E0 (tCons (tVar 0) (tCons (tVar 2) tNil)))) (tt := tYes) (own := [("fact", 2)]) (g := (gName 2)) (by rfl) scAllFacts.nd (pi_list (pv 1)) (blkOk_by (own := [("fact", 2)]) (N := nAllFacts) (sc := defScope sAllFacts) (by decide +kernel)) (fun _ _ _ _ _ => (pg_name (i := 2) scAllFacts.nd rfl (Or.inl rfl))) (fun _ _ _ _ _ => pts_nil) (fun _ _ _ _ _ => (pe_cal C_is_fact hr (by rfl) (pa_cons (pv 0) (pa_cons (pv 2) pa_nil))))) pa_nil)))))), ?_⟩
    have hts := (F _ B).len
    repeat infer_instance
    refine s_isL (F _ B).top ?_
    repeat infer_instance
    refine iteT ?_
    repeat infer_instance
    refine s_itH (F _ B).top ?_
    refine s_lcL (fun i acc M => acc = List.replicate i (V.bl true) ∧ M = L) (ts.map V.ref) B ⟨rfl, rfl⟩ ?_ (fun _ => rfl) ?_ ?_
    · rintro i acc M H ⟨_, rfl⟩ B
      exact SqL.of (F _ B).top
    · rintro Dc i x acc M H hx ⟨rfl, rfl⟩ B
      rw [List.getElem?_map] at hx
      obtain ⟨t, ht, rfl⟩ := Option.map_eq_some_iff.mp hx
      have hi := (List.getElem?_eq_some_iff.mp ht).1
      have ef : fs[i]? = some (fs[i]'(by omega)) := List.getElem?_eq_getElem _
      repeat infer_instance
      refine iteT ?_
      repeat infer_instance
      refine ⟨_, _, _, a, t, ns, _, rfl, B, fun H' B' => A H' B'.tail, fun H' B' => (F H' B'.tail).row i t _ ht ef, ok _ (List.mem_of_getElem? ef), fun H B => ?_⟩
      refine s_el B (by rw [List.length_replicate]; unfold sizeLine; omega) ⟨?_, rfl⟩
      rw [List.replicate_succ']
    · rintro Dc acc M H ⟨rfl, rfl⟩ B
      refine ⟨Dc, List.replicate (ts.map V.ref).length true, rfl, ?_, ?_⟩
      · rw [List.map_replicate]
        exact SqL.of (B.get Dc)
      · have e : (List.replicate (ts.map V.ref).length true).all id = true := List.all_eq_true.mpr fun x hx => (List.mem_replicate.mp hx).2
        rw [e]
        exact q _ B.tail
def spReqN : Sp := fun vs H Q _ => ∃ (H0 : Hp) (T : List (Addr × Str)) (L : List Cell) (a : Addr) (ns : List Int), vs = [.ref a] ∧ Own H0 H T L ∧ (∀ H', Own H0 H' T L → H' a = some (.lst (ns.map V.int))) ∧ ns.Nodup ∧ ns.length ≤ 4000 ∧ ∀ H', Own H0 H' T L → Q .non H'
theorem u_reqN {H0 H : Hp} {T : List (Addr × Str)} {L : List Cell} {a : Addr} {ns : List Int} {Q : VK} {E : XK} (B : Own H0 H T L) (A : ∀ H', Own H0 H' T L → H' a = some (.lst (ns.map V.int))) (nd : ns.Nodup) (hl : ns.length ≤ 4000) (k : ∀ H', Own H0 H' T L → Q .non H') : spReqN [.ref a] H Q E := ⟨_, _, _, a, ns, rfl, B, A, nd, hl, k⟩
set_option maxHeartbeats 0 in
theorem ok_Req {f : Addr} {fd : FuncData} {k : Nat} (F : Fun K "require_numbers" "require_numbers" sReq f fd) (Tx : Txt mg) (C_is_numbers : Cal P w K mg base k "is_numbers" ["value"] spNums) : FnOk P w K mg base CX0 (k + 1) f fd ["value"] spReqN := by
  refine F.ok scReq (fun vs H Q E h => ?_) (fun cdv A outer s H vs Q E hr h => ?_)
  · obtain ⟨_, _, _, a, ns, rfl, _⟩ := h
    rfl
  · obtain ⟨H0, T, L, a, ns, rfl, B, A, nd, hl, q⟩ := h
    refine ⟨_, (pss_one (ps_if (pt_not (pt_val (pe_cal C_is_numbers hr (by rfl) (pa_cons (pv 0) pa_nil))))
  (pss_one ps_never) pss_nil)), ?_⟩
    repeat infer_instance
    refine u_numsI B A hl nd fun H B => ?_
    repeat infer_instance
    refine iteF ?_
    repeat infer_instance
    exact q H B
/-- a list of numbers and facts about them -/
structure FactsAt (H0 : Hp) (T : List (Addr × Str)) (L : List Cell) (a : Addr) (ns : List Int) (b : Addr) (ts : List Addr) (fs : List Fc) : Prop where
  nu : ∀ H', Own H0 H' T L → H' a = some (.lst (ns.map V.int))
  fc : ∀ H', Own H0 H' T L → FcsAt H' b ts fs
  nd : ns.Nodup
  nl : ns.length ≤ 1000
  ok : ∀ f ∈ fs, okF ns f
  fl : fs.length ≤ 1000
theorem FactsAt.more {H0 : Hp} {T : List (Addr × Str)} {L : List Cell} {a b : Addr} {ns : List Int} {ts : List Addr} {fs : List Fc} (F : FactsAt H0 T L a ns b ts fs) {c : Cell} : FactsAt H0 T (c :: L) a ns b ts fs := ⟨fun H' B => F.nu H' B.tail, fun H' B => F.fc H' B.tail, F.nd, F.nl, F.ok, F.fl⟩
theorem FactsAt.mono {H0 : Hp} {T : List (Addr × Str)} {L L' : List Cell} {a b : Addr} {ns : List Int} {ts : List Addr} {fs : List Fc} (F : FactsAt H0 T L a ns b ts fs) (m : ∀ H', Own H0 H' T L' → Own H0 H' T L) : FactsAt H0 T L' a ns b ts fs := ⟨fun H' B => F.nu H' (m H' B), fun H' B => F.fc H' (m H' B), F.nd, F.nl, F.ok, F.fl⟩
def spRequireFacts : Sp := fun vs H Q _ => ∃ (H0 : Hp) (T : List (Addr × Str)) (L : List Cell) (a b : Addr) (ns : List Int) (ts : List Addr) (fs : List Fc), vs = [.ref a, .ref b] ∧ Own H0 H T L ∧ FactsAt H0 T L a ns b ts fs ∧ ∀ H', Own H0 H' T L → Q .non H'
theorem u_reqFacts {H0 H : Hp} {T : List (Addr × Str)} {L : List Cell} {a b : Addr} {ns : List Int} {ts : List Addr} {fs : List Fc} {Q : VK} {E : XK} (B : Own H0 H T L) (F : FactsAt H0 T L a ns b ts fs) (k : ∀ H', Own H0 H' T L → Q .non H') : spRequireFacts [.ref a, .ref b] H Q E := ⟨_, _, _, _, _, _, _, _, rfl, B, F, k⟩
set_option maxHeartbeats 0 in
theorem ok_RequireFacts {f : Addr} {fd : FuncData} {k : Nat} (F : Fun K "require_facts" "require_facts" sRequireFacts f fd) (Tx : Txt mg) (C_require_numbers : Cal P w K mg base k "require_numbers" ["value"] spReqN) (C_all_facts : Cal P w K mg base k "all_facts" ["result", "value"] spAllFacts) : FnOk P w K mg base CX0 (k + 1) f fd ["result", "facts"] spRequireFacts := by
  refine F.ok scRequireFacts (fun vs H Q E h => ?_) (fun cdv A outer s H vs Q E hr h => ?_)
  · obtain ⟨_, _, _, a, b, ns, ts, fs, rfl, _⟩ := h
    rfl
  · obtain ⟨H0, T, L, a, b, ns, ts, fs, rfl, B, F, q⟩ := h
    refine ⟨_, (pss_cons (ps_expr (pe_cal C_require_numbers hr (by rfl) (pa_cons (pv 0) pa_nil)))
 (pss_one (ps_if (pt_not (pt_val (pe_cal C_all_facts hr (by rfl) (pa_cons (pv 0) (pa_cons (pv 1) pa_nil)))))
  (pss_one ps_never) pss_nil))), ?_⟩
    have hl := F.nl
    repeat infer_instance
    refine u_reqN B F.nu F.nd (by omega) fun H B => ?_
    repeat infer_instance
    refine ⟨_, _, _, _, _, _, _, _, rfl, B, F.nu, F.fc, F.ok, F.fl, fun H B => ?_⟩
    repeat infer_instance
    refine iteF ?_
    repeat infer_instance
    exact q H B
end
end My
namespace My
open PySem PySem.Spec PyProof.Rows L2 LamX
local macro_rules | `(tactic| infer_instance) => `(tactic| first
  | with_reducible refine s_var (by with_unfolding_all exact rfl) ?_
  | with_reducible apply s_C
  | with_reducible apply s_op
  | with_reducible apply s_i0
  | with_reducible apply s_seq
  | with_reducible apply s_asg
  | with_reducible apply s_gn
  | with_reducible apply s_nil
  | with_reducible apply s_cons
  | with_reducible apply s_cb
  | with_reducible apply s_call
  | with_reducible apply s_un
  | with_reducible apply s_u
  | with_reducible apply s_test
  | with_reducible apply s_blV
  | with_reducible apply s_eqI
  | with_reducible apply s_neI
  | with_reducible apply s_ifs
  | with_reducible apply s_drop
  | with_reducible apply s_ret
  | with_reducible apply s_lst
  | with_reducible apply s_tup
  | with_reducible apply s_and
  | with_reducible apply s_or
  | with_reducible apply s_not
  | with_reducible apply s_tB
  | with_reducible apply s_bm
  | with_reducible apply s_bm0
  | with_reducible apply s_for
  | with_reducible apply s_iList
  | with_reducible apply s_iTup
  | with_reducible apply s_mndS
  | with_reducible apply s_srtS
  | with_reducible apply s_lc2S
  | with_reducible apply s_remS
  | with_reducible apply s_iRng
  | with_reducible apply s_iEnum
  | with_reducible apply s_iRng3
  | with_reducible apply s_iZip
  | with_reducible apply s_iZip3
  | with_reducible apply s_iRev
  | with_reducible apply s_get2S
  | with_reducible apply s_iEZ
  | with_reducible apply s_sl
  | with_reducible apply s_noPart
  | with_reducible apply s_part
  | with_reducible apply s_partI
  | with_reducible apply s_neS
  | with_reducible apply s_eqS
  | with_reducible apply s_lc
  | with_reducible apply s_dc
  | with_reducible apply s_dg
  | with_reducible apply s_di
  | with_reducible apply s_dni
  | with_reducible apply s_yes
  | with_reducible apply s_chain
  | with_reducible refine s_aug (by with_unfolding_all exact rfl) ?_
  | with_reducible apply s_ip
  | with_reducible apply s_revL
  | with_reducible apply s_gsub
  | with_reducible apply s_gslc
  | with_reducible apply s_parS
  | with_reducible apply s_par
  | with_reducible apply s_gc
  | with_reducible apply s_gnil
  | with_reducible apply s_brk
  | with_reducible apply s_cnt
  | with_reducible apply s_next
  | with_reducible apply s_andV
  | with_reducible apply s_orV
  | with_reducible apply s_notV
  | with_reducible apply s_isB
  | with_reducible apply s_notB
  | with_reducible apply s_max2
  | with_reducible apply s_min2
  | with_reducible apply s_abs
  | with_reducible apply s_intB
  | (with_reducible refine s_len (by assumption) ?_)
  | (with_reducible refine s_lenF (by assumption) ?_)
  | (with_reducible refine s_ty (by assumption) ?_)
  | (with_reducible refine s_tyF (by assumption) ?_)
  | (with_reducible refine s_i (by first | decide | exact cpow_ok (by decide) (by decide) (by decide) | exact cdivw (by decide) (by decide) | exact cmul_l (by decide) (by decide) | exact cmul_r (by decide) (by decide) | omega | exact cmul_l (by omega) (by omega) | exact cmul_r (by omega) (by omega)) ?_))

abbrev nNodesOf : List Str := ["result", "nodes", "index", "block", "number"]
theorem scNodesOf : FnScope nNodesOf ["result"] (defScope sNodesOf) := ⟨rfl, rfl, rfl, by decide +kernel, rfl, by decide +kernel, by decide +kernel⟩

abbrev nLinkOf : List Str := ["fact", "nodes", "kind", "one", "other"]
theorem scLinkOf : FnScope nLinkOf ["fact", "nodes"] (defScope sLinkOf) := ⟨rfl, rfl, rfl, by decide +kernel, rfl, by decide +kernel, by decide +kernel⟩

abbrev nJoinGroups : List Str := ["leaders", "sides", "drop", "keep", "turn", "node"]
theorem scJoinGroups : FnScope nJoinGroups ["leaders", "sides", "drop", "keep", "turn"] (defScope sJoinGroups) := ⟨rfl, rfl, rfl, by decide +kernel, rfl, by decide +kernel, by decide +kernel⟩

abbrev nSolve : List Str := ["result", "facts", "nodes", "leaders", "sides", "_", "fact", "one", "other", "apart", "turn", "keep", "drop"]
theorem scSolve : FnScope nSolve ["result", "facts"] (defScope sSolve) := ⟨rfl, rfl, rfl, by decide +kernel, rfl, by decide +kernel, by decide +kernel⟩

abbrev nContradict : List Str := ["result", "facts"]
theorem scContradict : FnScope nContradict ["result", "facts"] (defScope sContradict) := ⟨rfl, rfl, rfl, by decide +kernel, rfl, by decide +kernel, by decide +kernel⟩

/-- a dict tells this of the numbers -/
def NTab (kvs : List (Key × V)) (ns : List Int) (f : Int → Nat) : Prop := ∀ x ∈ ns, valV kvs (.inl x) = some (.int (f x : Nat))
/-- a function, as a list of ints -/
def lsV (N : Nat) (f : Nat → Nat) : List V := (List.range N).map fun n => V.int (f n : Nat)
theorem lsV_len (N : Nat) (f : Nat → Nat) : (lsV N f).length = N := by unfold lsV; rw [List.length_map, List.length_range]
theorem lsV_get {N : Nat} (f : Nat → Nat) {i : Nat} (h : i < N) : (lsV N f)[i]? = some (.int (f i : Nat)) := by unfold lsV; rw [List.getElem?_map, List.getElem?_range h]; rfl
theorem lsV_congr {N : Nat} {f g : Nat → Nat} (h : ∀ n, n < N → f n = g n) : lsV N f = lsV N g := by
  unfold lsV
  exact List.map_congr_left fun n hn => by rw [h n (List.mem_range.mp hn)]
theorem lsV_set {N : Nat} {f g : Nat → Nat} {i k : Nat} (h : i < N) (hg : ∀ n, n < N → g n = if n = i then k else f n) : (lsV N f).set i (.int (k : Nat)) = lsV N g := by
  refine List.ext_getElem? fun n => ?_
  rw [List.getElem?_set]
  by_cases hn : n < N
  · rw [lsV_get g hn, hg n hn]
    by_cases e : i = n
    · subst e
      rw [if_pos rfl, if_pos (by rw [lsV_len]; exact h), if_pos rfl]
    · rw [if_neg e, if_neg (fun z => e z.symm), lsV_get f hn]
  · have : i ≠ n := by omega
    rw [if_neg this, List.getElem?_eq_none (by rw [lsV_len]; omega), List.getElem?_eq_none (by rw [lsV_len]; omega)]
theorem bitN_n (b : Bool) : ((bitN b : Nat) : Int) = 1 ↔ b = true := by cases b <;> decide
section
variable {P : Program} {w : World} {K : PySem.W.Frag} {mg : Str → Option Value} {base : Heap}
def spNodesOf : Sp := fun vs H Q _ => ∃ (H0 : Hp) (T : List (Addr × Str)) (L : List Cell) (a : Addr) (ns : List Int), vs = [.ref a] ∧ Own H0 H T L ∧ (∀ H', Own H0 H' T L → H' a = some (.lst (ns.map V.int))) ∧ ns.Nodup ∧ ns.length ≤ 1000 ∧
  ∀ p kvs H', NTab kvs ns (ndF ns) → Own H0 H' T (.ob p (.dK kvs) :: L) → Q (.ref p) H'
set_option maxHeartbeats 0 in
theorem ok_NodesOf {f : Addr} {fd : FuncData} {k : Nat} (F : Fun K "nodes_of" "nodes_of" sNodesOf f fd) (Tx : Txt mg) (C_split_blocks : Cal P w K mg base k "split_blocks" ["numbers"] spSplit) : FnOk P w K mg base CX0 (k + 1) f fd ["result"] spNodesOf := by
  refine F.ok scNodesOf (fun vs H Q E h => ?_) (fun cdv A outer s H vs Q E hr h => ?_)
  · obtain ⟨_, _, _, a, ns, rfl, _⟩ := h
    rfl
  · obtain ⟨H0, T, L, a, ns, rfl, B, A, nd, hl, q⟩ := h
    refine ⟨_, (pss_cons (ps_set (i := 1) scNodesOf.nd rfl (.inl rfl) pe_dnewK)
 (pss_cons (ps_for PassesOwn.never rfl (pi_enum (by rfl) Tx.enum (pa_cons (pe_cal C_split_blocks hr (by rfl) (pa_cons (pv 0) pa_nil)) pa_nil)) (pg_tup (by rfl) (pgs_cons (pg_name (i := 2) scNodesOf.nd rfl (Or.inl rfl)) (pgs_cons (pg_name (i := 3) scNodesOf.nd rfl (Or.inl rfl)) pgs_nil)))
  (pss_one (ps_for PassesOwn.never rfl (pi_list (pv 3)) (pg_name (i := 4) scNodesOf.nd rfl (Or.inl rfl))
  (pss_one (ps_asg (pe_op op_add (pv 2) pe_int) (pg_sub (pv 1) (pv 4) (set_dict (hu1_of hr))))))))
 (pss_one (ps_ret (pv 1))))), ?_⟩
    have fl := (good_cut ns).flat
    have hc := (good_cut ns).len
    repeat infer_instance
    refine s_dnew B fun p H B => ?_
    repeat infer_instance
    refine u_split B (A _ B.tail) (by omega) fun pb qb H B => ?_
    have hqb := B.lenF pb
    repeat infer_instance
    refine s_itE (B.getF pb) ?_
    refine s_forE (fun i σ M => ∃ (kvs : List (Key × V)) (y2 y3 y4 : Option V), σ = [some (.ref a), some (.ref p), y2, y3, y4] ∧ kvs.length ≤ ((cut ns).take i).flatten.length ∧ (∀ (j : Nat) (b : List Int), j < i → (cut ns)[j]? = some b → ∀ x ∈ b, valV kvs (.inl x) = some (.int ((j + 1 : Nat) : Int))) ∧ M = .ob p (.dK kvs) :: .fm pb qb (vv (cut ns)) :: L) (qb.map V.ref) (show Own H0 H T (.ob p (.dK []) :: .fm pb qb (vv (cut ns)) :: L) from B.arr) ⟨[], none, none, none, rfl, Nat.zero_le _, fun j b hj => absurd hj (Nat.not_lt_zero _), rfl⟩ ?_ ?_ ?_
    · rintro i σ M H ⟨kvs, _, _, _, _, _, _, rfl⟩ B
      exact SqL.of (B.getF pb)
    · rintro i x σ M H hx ⟨kvs, y2, y3, y4, rfl, hk, hv, rfl⟩ B
      rw [List.getElem?_map] at hx
      obtain ⟨qq, hq, rfl⟩ := Option.map_eq_some_iff.mp hx
      have hi : i < qb.length := (List.getElem?_eq_some_iff.mp hq).1
      have ef : (cut ns)[i]? = some ((cut ns)[i]'(by omega)) := List.getElem?_eq_getElem _
      generalize (cut ns)[i]'(by omega) = f at ef
      have tk : ((cut ns).take (i + 1)).flatten.length = ((cut ns).take i).flatten.length + f.length := by rw [List.take_add_one, ef, List.flatten_append]; simp
      have tl : ((cut ns).take (i + 1)).flatten.length ≤ ns.length := by
        have h2 : ns.length = ((cut ns).take (i + 1)).flatten.length + ((cut ns).drop (i + 1)).flatten.length := by
          rw [← List.length_append, ← List.flatten_append, List.take_append_drop, fl]
        omega
      repeat infer_instance
      refine s_itH (B.rowAt pb hq (vv_get ef)) ?_
      refine s_forL (fun k σ M => ∃ (kvs : List (Key × V)) (y4 : Option V), σ = [some (.ref a), some (.ref p), some (.int (i : Int)), some (.ref qq), y4] ∧ kvs.length ≤ ((cut ns).take i).flatten.length + k ∧ (∀ (j : Nat) (b : List Int), j < i → (cut ns)[j]? = some b → ∀ x ∈ b, valV kvs (.inl x) = some (.int ((j + 1 : Nat) : Int))) ∧ (∀ x ∈ f.take k, valV kvs (.inl x) = some (.int ((i + 1 : Nat) : Int))) ∧ M = .ob p (.dK kvs) :: .fm pb qb (vv (cut ns)) :: L) (f.map V.int) B ⟨kvs, y4, rfl, hk, hv, (fun x h => nomatch h), rfl⟩ ?_ ?_ ?_
      · rintro k σ M H ⟨kvs, _, _, _, _, _, rfl⟩ B
        exact SqL.of (B.rowAt pb hq (vv_get ef))
      · rintro k x σ M H hx ⟨kvs, y4, rfl, hk, hv, hv2, rfl⟩ B
        rw [List.getElem?_map] at hx
        obtain ⟨z, hz, rfl⟩ := Option.map_eq_some_iff.mp hx
        have hkf : k < f.length := (List.getElem?_eq_some_iff.mp hz).1
        repeat infer_instance
        refine s_setD B (by unfold sizeLine; omega) fun H B => ?_
        refine s_inn B ⟨putK kvs (.inl z) (.int ((i : Int) + 1)), some (.int z), rfl, ?_, fun j b hj hb x' hxb => ?_, fun x hx => ?_, rfl⟩
        · have := length_putK kvs (.inl z) (.int ((i : Int) + 1))
          omega
        · rw [valP, if_neg fun e => ?_]
          · exact hv j b hj hb x' hxb
          · subst e
            have nf : (cut ns).flatten.Nodup := by rw [fl]; exact nd
            have p1 := (List.pairwise_flatten.mp nf).2
            have e1 : (cut ns)[j]'((List.getElem?_eq_some_iff.mp hb).1) = b := (List.getElem?_eq_some_iff.mp hb).2
            have e2 : (cut ns)[i]'((List.getElem?_eq_some_iff.mp ef).1) = f := (List.getElem?_eq_some_iff.mp ef).2
            have p2 := List.pairwise_iff_getElem.mp p1 j i (List.getElem?_eq_some_iff.mp hb).1 (List.getElem?_eq_some_iff.mp ef).1 hj
            rw [e1, e2] at p2
            exact p2 _ hxb _ (List.mem_of_getElem? hz) rfl
        · rw [valP]
          by_cases e : x = z
          · rw [if_pos e]; rfl
          · rw [if_neg e]
            rw [List.take_add_one, hz] at hx
            rcases List.mem_append.mp hx with h | h
            · exact hv2 x h
            · exact absurd (List.mem_singleton.mp h) e
      · rintro σ M H ⟨kvs, y4, rfl, hk, hv, hv2, rfl⟩ B
        rw [List.length_map] at hk hv2
        rw [List.take_length] at hv2
        repeat infer_instance
        refine s_inn B ⟨kvs, _, _, _, rfl, by omega, fun j b hj hb => ?_, rfl⟩
        rcases Nat.lt_or_ge j i with h | h
        · exact hv j b h hb
        · have : j = i := by omega
          subst this
          rw [ef] at hb
          cases hb
          exact hv2
    · rintro σ M H ⟨kvs, y2, y3, y4, rfl, hk, hv, rfl⟩ B
      rw [List.length_map, hqb] at hv
      repeat infer_instance
      refine q p kvs H (fun x hx => ?_) B.arr
      have hle := nd_le hx
      have e0 : ndF ns x = (cut ns).findIdx (fun b => decide (x ∈ b)) + 1 := rfl
      have hlt : (cut ns).findIdx (fun b => decide (x ∈ b)) < (cut ns).length := by omega
      have := List.findIdx_getElem (w := hlt)
      exact hv _ _ hlt (List.getElem?_eq_getElem hlt) x (of_decide_eq_true this)
def spLinkOf : Sp := fun vs H Q _ => ∃ (H0 : Hp) (T : List (Addr × Str)) (L : List Cell) (t d : Addr) (kvs : List (Key × V)) (ns : List Int) (f : Fc), vs = [.ref t, .ref d] ∧ Own H0 H T L ∧ H t = some (fcO f) ∧ H d = some (.dK kvs) ∧ NTab kvs ns (ndF ns) ∧ okF ns f ∧
  ∀ p H', Own H0 H' T (.ob p (.tup [.int ((lkF ns f).1 : Nat), .int ((lkF ns f).2.1 : Nat), .int (bitN (lkF ns f).2.2 : Nat)]) :: L) → Q (.ref p) H'
set_option maxHeartbeats 0 in
theorem ok_LinkOf {f : Addr} {fd : FuncData} {k : Nat} (F : Fun K "link_of" "link_of" sLinkOf f fd) (Tx : Txt mg)  : FnOk P w K mg base CX0 (k + 1) f fd ["fact", "nodes"] spLinkOf := by
  refine F.ok scLinkOf (fun vs H Q E h => ?_) (fun cdv A outer s H vs Q E hr h => ?_)
  · obtain ⟨_, _, _, t, d, kvs, ns, f, rfl, _⟩ := h
    rfl
  · obtain ⟨H0, T, L, t, d, kvs, ns, f, rfl, B, ht, hd, tb, ok, q⟩ := h
    refine ⟨_, (pss_cons (ps_asg (pv 0) (pg_tup (by rfl) (pgs_cons (pg_name (i := 2) scLinkOf.nd rfl (Or.inl rfl)) (pgs_cons (pg_name (i := 3) scLinkOf.nd rfl (Or.inl rfl)) (pgs_cons (pg_name (i := 4) scLinkOf.nd rfl (Or.inl rfl)) pgs_nil)))))
 (pss_cons (ps_if (pt_cmpR op_eq (pv 2) pe_str (by rfl))
  (pss_one (ps_ret (pe_tup (pa_cons (pe_dget (hu1_of hr) (pv 1) (pv 3) (fun _ _ => rfl)) (pa_cons pe_int (pa_cons (pv 4) pa_nil)))))) pss_nil)
 (pss_one (ps_ret (pe_tup (pa_cons (pe_dget (hu1_of hr) (pv 1) (pv 3) (fun _ _ => rfl)) (pa_cons (pe_dget (hu1_of hr) (pv 1) (pv 4) (fun _ _ => rfl)) (pa_cons (pe_ifExp (pt_cmpR op_eq (pv 2) pe_str (by rfl)) pe_int pe_int) pa_nil)))))))), ?_⟩
    obtain ⟨h1, h2⟩ := ok
    repeat infer_instance
    refine s_gtH ht rfl ?_
    repeat infer_instance
    unfold lkF at q
    rcases h2 with ⟨e, h3⟩ | ⟨e, h3, h4⟩
    · rw [if_pos e] at q
      rw [e]
      refine iteT ?_
      repeat infer_instance
      refine s_dget hd (tb _ h1) ?_
      repeat infer_instance
      refine s_newT B (show 3 ≤ sizeLine from by decide) fun p H B => ?_
      have e2 : f.2.2 = ((bitN (f.2.2 == 1) : Nat) : Int) := by rcases h3 with h | h <;> rw [h] <;> decide
      refine q p H ?_
      rw [← e2]
      exact B
    · have ne : ¬ f.1 = "in" := by rcases e with e | e <;> rw [e] <;> decide +kernel
      rw [if_neg ne] at q
      rw [decide_eq_false ne]
      refine iteF ?_
      repeat infer_instance
      refine s_dget hd (tb _ h1) ?_
      repeat infer_instance
      refine s_dget hd (tb _ h3) ?_
      repeat infer_instance
      refine s_ifx ?_
      repeat infer_instance
      refine iteD (fun h5 => ?_) (fun h5 => ?_)
      · repeat infer_instance
        refine s_newT B (show 3 ≤ sizeLine from by decide) fun p H B => ?_
        refine q p H ?_
        rw [decide_eq_true h5]
        exact B
      · repeat infer_instance
        refine s_newT B (show 3 ≤ sizeLine from by decide) fun p H B => ?_
        refine q p H ?_
        rw [decide_eq_false h5]
        exact B
def spJoinGroups : Sp := fun vs H Q _ => ∃ (H0 : Hp) (T : List (Addr × Str)) (L : List Cell) (pl ps : Addr) (N kp dr : Nat) (tn : Bool) (l : Nat → Nat) (s : Nat → Bool), vs = [.ref pl, .ref ps, .int (dr : Nat), .int (kp : Nat), .int (bitN tn : Nat)] ∧ Own H0 H T (.ob pl (.lst (lsV N l)) :: .ob ps (.lst (lsV N fun n => bitN (s n))) :: L) ∧ N ≤ 100000 ∧
  ∀ H', Own H0 H' T (.ob pl (.lst (lsV N fun n => if l n = dr then kp else l n)) :: .ob ps (.lst (lsV N fun n => bitN (if l n = dr then s n ^^ tn else s n))) :: L) → Q .non H'
set_option maxHeartbeats 0 in
theorem ok_JoinGroups {f : Addr} {fd : FuncData} {k : Nat} (F : Fun K "join_groups" "join_groups" sJoinGroups f fd) (Tx : Txt mg)  : FnOk P w K mg base CX0 (k + 1) f fd ["leaders", "sides", "drop", "keep", "turn"] spJoinGroups := by
  refine F.ok scJoinGroups (fun vs H Q E h => ?_) (fun cdv A outer s H vs Q E hr h => ?_)
  · obtain ⟨_, _, _, pl, ps, N, kp, dr, tn, l, s, rfl, _⟩ := h
    rfl
  · obtain ⟨H0, T, L, pl, ps, N, kp, dr, tn, l, s, rfl, B, hN, q⟩ := h
    refine ⟨_, (pss_one (ps_for PassesOwn.never rfl (pi_range1 (by rfl) Tx.range (pa_cons (pe_callB (cl_len) (by rfl) Tx.len (by decide +kernel) (pa_cons (pv 0) pa_nil)) pa_nil)) (pg_name (i := 5) scJoinGroups.nd rfl (Or.inl rfl))
  (pss_one (ps_if (pt_cmpR op_eq (pe_ix ix_list (pv 0) (pv 5) (fun _ _ => rfl)) (pv 2) (by rfl))
  (pss_cons (ps_asg (pv 3) (pg_sub (pv 0) (pv 5) set_list))
 (pss_one (ps_asg (pe_op op_xor (pe_ix ix_list (pv 1) (pv 5) (fun _ _ => rfl)) (pv 4)) (pg_sub (pv 1) (pv 5) set_list)))) pss_nil)))), ?_⟩
    repeat infer_instance
    rw [lsV_len]
    refine s_itR (by omega) (by omega) ?_
    rw [Int.toNat_natCast]
    refine s_forR (fun i σ M => (∃ y : Option V, σ = [some (.ref pl), some (.ref ps), some (.int (dr : Nat)), some (.int (kp : Nat)), some (.int (bitN tn : Nat)), y]) ∧ M = .ob pl (.lst (lsV N fun n => if n < i ∧ l n = dr then kp else l n)) :: .ob ps (.lst (lsV N fun n => bitN (if n < i ∧ l n = dr then s n ^^ tn else s n))) :: L) (show Own H0 H T (.ob pl (.lst (lsV N fun n => if n < 0 ∧ l n = dr then kp else l n)) :: .ob ps (.lst (lsV N fun n => bitN (if n < 0 ∧ l n = dr then s n ^^ tn else s n))) :: L) from by
      rw [lsV_congr (f := fun n => if n < 0 ∧ l n = dr then kp else l n) (g := l) (fun n _ => if_neg fun z => Nat.not_lt_zero _ z.1), lsV_congr (f := fun n => bitN (if n < 0 ∧ l n = dr then s n ^^ tn else s n)) (g := fun n => bitN (s n)) (fun n _ => by rw [if_neg fun z => Nat.not_lt_zero _ z.1])]
      exact B) ⟨⟨none, rfl⟩, rfl⟩ ?_ ?_
    · rintro i σ M H hi ⟨⟨y, rfl⟩, rfl⟩ B
      repeat infer_instance
      refine s_ixH (B.get pl) (lsV_get _ hi) ?_
      repeat infer_instance
      have e0 : (if i < i ∧ l i = dr then kp else l i) = l i := if_neg fun z => Nat.lt_irrefl _ z.1
      rw [e0]
      refine iteD (fun h1 => ?_) (fun h1 => ?_)
      · have h1 : l i = dr := by omega
        repeat infer_instance
        refine s_setL B (by rw [lsV_len]; exact hi) fun H B => ?_
        rw [lsV_set (g := fun n => if n < i + 1 ∧ l n = dr then kp else l n) hi (fun n hn => by
          by_cases e : n = i
          · subst e
            rw [if_pos ⟨Nat.lt_succ_self _, h1⟩, if_pos rfl]
          · rw [if_neg e]
            by_cases z : n < i ∧ l n = dr
            · rw [if_pos z, if_pos ⟨by omega, z.2⟩]
            · rw [if_neg z, if_neg fun y => z ⟨by omega, y.2⟩])] at B
        repeat infer_instance
        refine s_ixH (B.get ps) (lsV_get _ hi) ?_
        repeat infer_instance
        have e1 : (if i < i ∧ l i = dr then s i ^^ tn else s i) = s i := if_neg fun z => Nat.lt_irrefl _ z.1
        rw [e1, bx]
        refine s_setL B (by rw [lsV_len]; exact hi) fun H B => ?_
        rw [lsV_set (g := fun n => bitN (if n < i + 1 ∧ l n = dr then s n ^^ tn else s n)) hi (fun n hn => by
          by_cases e : n = i
          · subst e
            rw [if_pos ⟨Nat.lt_succ_self _, h1⟩, if_pos rfl]
          · rw [if_neg e]
            by_cases z : n < i ∧ l n = dr
            · rw [if_pos z, if_pos ⟨by omega, z.2⟩]
            · rw [if_neg z, if_neg fun y => z ⟨by omega, y.2⟩])] at B
        refine s_inn B ⟨⟨_, rfl⟩, rfl⟩
      · have h1 : ¬ l i = dr := by omega
        rw [lsV_congr (f := fun n => if n < i ∧ l n = dr then kp else l n) (g := fun n => if n < i + 1 ∧ l n = dr then kp else l n) (fun n _ => by
            by_cases z : n < i ∧ l n = dr
            · rw [if_pos z, if_pos ⟨by omega, z.2⟩]
            · rw [if_neg z, if_neg fun y => z ⟨by
                have := y.1
                by_cases e : n = i
                · subst e; exact absurd y.2 h1
                · omega, y.2⟩]),
          lsV_congr (f := fun n => bitN (if n < i ∧ l n = dr then s n ^^ tn else s n)) (g := fun n => bitN (if n < i + 1 ∧ l n = dr then s n ^^ tn else s n)) (fun n _ => by
            by_cases z : n < i ∧ l n = dr
            · rw [if_pos z, if_pos ⟨by omega, z.2⟩]
            · rw [if_neg z, if_neg fun y => z ⟨by
                have := y.1
                by_cases e : n = i
                · subst e; exact absurd y.2 h1
                · omega, y.2⟩])] at B
        repeat infer_instance
        refine s_inn B ⟨⟨_, rfl⟩, rfl⟩
    · rintro σ M H ⟨⟨y, rfl⟩, rfl⟩ B
      rw [lsV_congr (f := fun n => if n < N ∧ l n = dr then kp else l n) (g := fun n => if l n = dr then kp else l n) (fun n hn => by
          by_cases z : l n = dr
          · rw [if_pos z, if_pos ⟨hn, z⟩]
          · rw [if_neg z, if_neg fun y => z y.2]),
        lsV_congr (f := fun n => bitN (if n < N ∧ l n = dr then s n ^^ tn else s n)) (g := fun n => bitN (if l n = dr then s n ^^ tn else s n)) (fun n hn => by
          by_cases z : l n = dr
          · rw [if_pos z, if_pos ⟨hn, z⟩]
          · rw [if_neg z, if_neg fun y => z y.2])] at B
      repeat infer_instance
      exact q H B
end
end My
namespace My
open PySem PySem.Spec PyProof.Rows L2 LamX
/-- 0, 1, .. as ints -/
abbrev rngI (n : Nat) : List Int := (List.range n).map fun i : Nat => (i : Int)
theorem cr_rng1 {X : Cx} : CallR X (.type "range") rRng1 := cr_range1
section
variable {H0 H : Hp} {T : List (Addr × Str)} {L L' : List Cell} {r : Addr} {n : Nat} {j : Int} {Q : VK}
theorem s_rng1 (B : Own H0 H T L) (k : ∀ p H', Own H0 H' T (.ob p (.rng 0 j) :: L) → Q (.ref p) H') : rRng1 [.int j] H Q := ⟨j, rfl, fun p n => k p _ (B.new n trivial)⟩
theorem s_listR (B : Own H0 H T L) [P : Pull L r (.ob r (.rng 0 (n : Int))) L'] (h : n ≤ 100000) (k : ∀ p H', Own H0 H' T (.ob p (.lst ((rngI n).map V.int)) :: L) → Q (.ref p) H') : rListR [.ref r] H Q := by
  refine ⟨r, n, rfl, B.get r, h, fun l nl => k l _ ?_⟩
  have b := B.new (o := .lst ((List.range n).map fun i : Nat => V.int (i : Int))) nl trivial
  rw [show (rngI n).map V.int = (List.range n).map fun i : Nat => V.int (i : Int) from by unfold rngI; rw [List.map_map]; rfl]
  exact b
end
end My
namespace My
open PySem PySem.Spec PyProof.Rows L2 LamX
local macro_rules | `(tactic| infer_instance) => `(tactic| first
  | with_reducible refine s_var (by with_unfolding_all exact rfl) ?_
  | with_reducible apply s_C
  | with_reducible apply s_op
  | with_reducible apply s_i0
  | with_reducible apply s_seq
  | with_reducible apply s_asg
  | with_reducible apply s_gn
  | with_reducible apply s_nil
  | with_reducible apply s_cons
  | with_reducible apply s_cb
  | with_reducible apply s_call
  | with_reducible apply s_un
  | with_reducible apply s_u
  | with_reducible apply s_test
  | with_reducible apply s_blV
  | with_reducible apply s_eqI
  | with_reducible apply s_neI
  | with_reducible apply s_ifs
  | with_reducible apply s_drop
  | with_reducible apply s_ret
  | with_reducible apply s_lst
  | with_reducible apply s_tup
  | with_reducible apply s_and
  | with_reducible apply s_or
  | with_reducible apply s_not
  | with_reducible apply s_tB
  | with_reducible apply s_bm
  | with_reducible apply s_bm0
  | with_reducible apply s_for
  | with_reducible apply s_iList
  | with_reducible apply s_iTup
  | with_reducible apply s_mndS
  | with_reducible apply s_srtS
  | with_reducible apply s_lc2S
  | with_reducible apply s_remS
  | with_reducible apply s_iRng
  | with_reducible apply s_iEnum
  | with_reducible apply s_iRng3
  | with_reducible apply s_iZip
  | with_reducible apply s_iZip3
  | with_reducible apply s_iRev
  | with_reducible apply s_get2S
  | with_reducible apply s_iEZ
  | with_reducible apply s_sl
  | with_reducible apply s_noPart
  | with_reducible apply s_part
  | with_reducible apply s_partI
  | with_reducible apply s_neS
  | with_reducible apply s_eqS
  | with_reducible apply s_lc
  | with_reducible apply s_dc
  | with_reducible apply s_dg
  | with_reducible apply s_di
  | with_reducible apply s_dni
  | with_reducible apply s_yes
  | with_reducible apply s_chain
  | with_reducible refine s_aug (by with_unfolding_all exact rfl) ?_
  | with_reducible apply s_ip
  | with_reducible apply s_revL
  | with_reducible apply s_gsub
  | with_reducible apply s_gslc
  | with_reducible apply s_parS
  | with_reducible apply s_par
  | with_reducible apply s_gc
  | with_reducible apply s_gnil
  | with_reducible apply s_brk
  | with_reducible apply s_cnt
  | with_reducible apply s_next
  | with_reducible apply s_andV
  | with_reducible apply s_orV
  | with_reducible apply s_notV
  | with_reducible apply s_isB
  | with_reducible apply s_notB
  | with_reducible apply s_max2
  | with_reducible apply s_min2
  | with_reducible apply s_abs
  | with_reducible apply s_intB
  | (with_reducible refine s_len (by assumption) ?_)
  | (with_reducible refine s_lenF (by assumption) ?_)
  | (with_reducible refine s_ty (by assumption) ?_)
  | (with_reducible refine s_tyF (by assumption) ?_)
  | (with_reducible refine s_i (by first | decide | exact cpow_ok (by decide) (by decide) (by decide) | exact cdivw (by decide) (by decide) | exact cmul_l (by decide) (by decide) | exact cmul_r (by decide) (by decide) | omega | exact cmul_l (by omega) (by omega) | exact cmul_r (by omega) (by omega)) ?_))

theorem zeros_lsV (N : Nat) : List.replicate N (V.int 0) = lsV N fun n => bitN false := by
  refine List.ext_getElem? fun n => ?_
  by_cases hn : n < N
  · rw [lsV_get _ hn, List.getElem?_replicate, if_pos hn]; rfl
  · rw [List.getElem?_eq_none (by rw [List.length_replicate]; omega), List.getElem?_eq_none (by rw [lsV_len]; omega)]
theorem sat_take {q : Nat → Bool} {cs : List Lk} {i : Nat} (h : sat q cs) : sat q (cs.take i) := fun c hc => h c (List.mem_of_mem_take hc)
section
variable {P : Program} {w : World} {K : PySem.W.Frag} {mg : Str → Option Value} {base : Heap}
def spSolve : Sp := fun vs H Q _ => ∃ (H0 : Hp) (T : List (Addr × Str)) (L : List Cell) (a b : Addr) (ns : List Int) (ts : List Addr) (fs : List Fc), vs = [.ref a, .ref b] ∧ Own H0 H T L ∧ FactsAt H0 T L a ns b ts fs ∧
  ((∀ q, ¬ sat q (fs.map (lkF ns))) → ∀ H', Own H0 H' T L → Q .non H') ∧
  ∀ t pl ps l s H', UF ((cut ns).length + 1) (fs.map (lkF ns)) l s → Own H0 H' T (.ob t (.tup [.ref pl, .ref ps]) :: .ob pl (.lst (lsV ((cut ns).length + 1) l)) :: .ob ps (.lst (lsV ((cut ns).length + 1) fun n => bitN (s n))) :: L) → Q (.ref t) H'
theorem u_solve {H0 H : Hp} {T : List (Addr × Str)} {L : List Cell} {a b : Addr} {ns : List Int} {ts : List Addr} {fs : List Fc} {Q : VK} {E : XK} (B : Own H0 H T L) (F : FactsAt H0 T L a ns b ts fs)
    (k0 : (∀ q, ¬ sat q (fs.map (lkF ns))) → ∀ H', Own H0 H' T L → Q .non H')
    (k1 : ∀ t pl ps l s H', UF ((cut ns).length + 1) (fs.map (lkF ns)) l s → Own H0 H' T (.ob t (.tup [.ref pl, .ref ps]) :: .ob pl (.lst (lsV ((cut ns).length + 1) l)) :: .ob ps (.lst (lsV ((cut ns).length + 1) fun n => bitN (s n))) :: L) → Q (.ref t) H') : spSolve [.ref a, .ref b] H Q E :=
  ⟨_, _, _, _, _, _, _, _, rfl, B, F, k0, k1⟩
set_option maxHeartbeats 0 in
theorem ok_Solve {f : Addr} {fd : FuncData} {k : Nat} (F : Fun K "solve" "solve" sSolve f fd) (Tx : Txt mg) (C_split_blocks : Cal P w K mg base k "split_blocks" ["numbers"] spSplit) (C_nodes_of : Cal P w K mg base k "nodes_of" ["result"] spNodesOf) (C_link_of : Cal P w K mg base k "link_of" ["fact", "nodes"] spLinkOf) (C_join_groups : Cal P w K mg base k "join_groups" ["leaders", "sides", "drop", "keep", "turn"] spJoinGroups) : FnOk P w K mg base CX0 (k + 1) f fd ["result", "facts"] spSolve := by
  refine F.ok scSolve (fun vs H Q E h => ?_) (fun cdv A outer s H vs Q E hr h => ?_)
  · obtain ⟨_, _, _, a, b, ns, ts, fs, rfl, _⟩ := h
    rfl
  · obtain ⟨H0, T, L, a, b, ns, ts, fs, rfl, B, F, q0, q1⟩ := h
    refine ⟨_, (pss_cons (ps_set (i := 2) scSolve.nd rfl (.inl rfl) (pe_cal C_nodes_of hr (by rfl) (pa_cons (pv 0) pa_nil)))
 (pss_cons (ps_set (i := 3) scSolve.nd rfl (.inl rfl) (pe_callTy ((call_listR (by rfl))) (by rfl) Tx.list (by decide +kernel) (pa_cons (pe_callTy (cr_rng1) (by rfl) Tx.range (by decide +kernel) (pa_cons (pe_op op_add (pe_callB (cl_len) (by rfl) Tx.len (by decide +kernel) (pa_cons (pe_cal C_split_blocks hr (by rfl) (pa_cons (pv 0) pa_nil)) pa_nil)) pe_int) pa_nil)) pa_nil)))
 (pss_cons (ps_setLc (i := 4) (te := (tC (.int 0))) (tt := tYes) (own := [("_", 5)]) (g := (gName 5)) (by rfl) scSolve.nd rfl rfl (sw_true rfl rfl rfl (by decide +kernel)) (pi_list (pv 3)) (blkOk_by (own := [("_", 5)]) (N := nSolve) (sc := defScope sSolve) (by decide +kernel)) (fun _ _ _ _ _ => (pg_name (i := 5) scSolve.nd rfl (Or.inl rfl))) (fun _ _ _ _ _ => pts_nil) (fun _ _ _ _ _ => pe_int))
 (pss_cons (ps_for PassesOwn.never rfl (pi_list (pv 1)) (pg_name (i := 6) scSolve.nd rfl (Or.inl rfl))
  (pss_cons (ps_asg (pe_cal C_link_of hr (by rfl) (pa_cons (pv 6) (pa_cons (pv 2) pa_nil))) (pg_tup (by rfl) (pgs_cons (pg_name (i := 7) scSolve.nd rfl (Or.inl rfl)) (pgs_cons (pg_name (i := 8) scSolve.nd rfl (Or.inl rfl)) (pgs_cons (pg_name (i := 9) scSolve.nd rfl (Or.inl rfl)) pgs_nil)))))
 (pss_cons (ps_set (i := 10) scSolve.nd rfl (.inl rfl) (pe_op op_xor (pe_op op_xor (pe_ix ix_list (pv 4) (pv 7) (fun _ _ => rfl)) (pe_ix ix_list (pv 4) (pv 8) (fun _ _ => rfl))) (pv 9)))
 (pss_cons (ps_set (i := 11) scSolve.nd rfl (.inl rfl) (pe_callB (cl_min2 (by rfl)) (by rfl) Tx.min (by decide +kernel) (pa_cons (pe_ix ix_list (pv 3) (pv 7) (fun _ _ => rfl)) (pa_cons (pe_ix ix_list (pv 3) (pv 8) (fun _ _ => rfl)) pa_nil))))
 (pss_cons (ps_set (i := 12) scSolve.nd rfl (.inl rfl) (pe_callB (cl_max2 (by rfl)) (by rfl) Tx.max (by decide +kernel) (pa_cons (pe_ix ix_list (pv 3) (pv 7) (fun _ _ => rfl)) (pa_cons (pe_ix ix_list (pv 3) (pv 8) (fun _ _ => rfl)) pa_nil))))
 (pss_one (ps_if (pt_cmpR op_ne (pv 11) (pv 12) (by rfl))
  (pss_one (ps_expr (pe_cal C_join_groups hr (by rfl) (pa_cons (pv 3) (pa_cons (pv 4) (pa_cons (pv 12) (pa_cons (pv 11) (pa_cons (pv 10) pa_nil)))))))) (pss_one (ps_if (pt_cmpR op_eq (pv 10) pe_int (by rfl))
  (pss_one (ps_ret pe_non)) pss_nil)))))))))
 (pss_one (ps_ret (pe_tup (pa_cons (pv 3) (pa_cons (pv 4) pa_nil))))))))), ?_⟩
    have hnl := F.nl
    have hc := (good_cut ns).len
    have hts := (F.fc _ B).len
    have hfl := F.fl
    repeat infer_instance
    refine ⟨_, _, _, a, ns, rfl, B, F.nu, F.nd, F.nl, fun nd kvs H tb B => ?_⟩
    repeat infer_instance
    refine u_split B (F.nu _ B.tail) (by omega) fun pb qb H B => ?_
    have hqb := B.lenF pb
    repeat infer_instance
    rw [hqb]
    have B : Own H0 H T (.ob nd (.dK kvs) :: L) := B.arr
    refine s_rng1 B fun rg H B => ?_
    repeat infer_instance
    have B : Own H0 H T (.ob rg (.rng 0 (((cut ns).length + 1 : Nat) : Int)) :: .ob nd (.dK kvs) :: L) := B
    refine s_listR (n := (cut ns).length + 1) B (by omega) fun pl H B => ?_
    have el : (rngI ((cut ns).length + 1)).map V.int = lsV ((cut ns).length + 1) fun n => n := by unfold rngI lsV; rw [List.map_map]; rfl
    rw [el] at B
    have B : Own H0 H T (.ob pl (.lst (lsV ((cut ns).length + 1) fun n => n)) :: .ob nd (.dK kvs) :: L) := B.arr
    repeat infer_instance
    refine s_itH (B.get pl) ?_
    refine s_lcL (fun i acc M => acc = List.replicate i (V.int 0) ∧ M = .ob pl (.lst (lsV ((cut ns).length + 1) fun n => n)) :: .ob nd (.dK kvs) :: L) (lsV ((cut ns).length + 1) fun n => n) B ⟨rfl, rfl⟩ ?_ (fun _ => rfl) ?_ ?_
    · rintro i acc M H ⟨_, rfl⟩ B
      exact SqL.of (B.get pl)
    · rintro Dc i x acc M H hx ⟨rfl, rfl⟩ B
      have hi := (List.getElem?_eq_some_iff.mp hx).1
      rw [lsV_len] at hi
      repeat infer_instance
      refine iteT ?_
      repeat infer_instance
      refine s_el B (by rw [List.length_replicate]; unfold sizeLine; omega) ⟨?_, rfl⟩
      rw [List.replicate_succ']
    rintro ps acc M H ⟨rfl, rfl⟩ B
    rw [lsV_len, zeros_lsV] at B
    repeat infer_instance
    refine s_itH (F.fc _ B.tail.tail.tail).top ?_
    have B : Own H0 H T (.ob pl (.lst (lsV ((cut ns).length + 1) fun n => n)) :: .ob ps (.lst (lsV ((cut ns).length + 1) fun n => bitN false)) :: .ob nd (.dK kvs) :: L) := B.arr
    refine s_forL (fun i σ M => ∃ (l : Nat → Nat) (s : Nat → Bool) (y6 y7 y8 y9 y10 y11 y12 : Option V), σ = [some (.ref a), some (.ref b), some (.ref nd), some (.ref pl), some (.ref ps), none, y6, y7, y8, y9, y10, y11, y12] ∧ UF ((cut ns).length + 1) ((fs.take i).map (lkF ns)) l s ∧ M = .ob pl (.lst (lsV ((cut ns).length + 1) l)) :: .ob ps (.lst (lsV ((cut ns).length + 1) fun n => bitN (s n))) :: .ob nd (.dK kvs) :: L) (ts.map V.ref) B ⟨_, _, none, none, none, none, none, none, none, rfl, UF.start _, rfl⟩ ?_ ?_ ?_
    · rintro i σ M H ⟨_, _, _, _, _, _, _, _, _, _, _, rfl⟩ B
      exact SqL.of (F.fc _ B.tail.tail.tail).top
    · rintro i x σ M H hx ⟨l, s, y6, y7, y8, y9, y10, y11, y12, rfl, U, rfl⟩ B
      rw [List.getElem?_map] at hx
      obtain ⟨t, ht, rfl⟩ := Option.map_eq_some_iff.mp hx
      have hi := (List.getElem?_eq_some_iff.mp ht).1
      have ef : fs[i]? = some (fs[i]'(by omega)) := List.getElem?_eq_getElem _
      generalize fs[i]'(by omega) = f at ef
      have okf := F.ok f (List.mem_of_getElem? ef)
      obtain ⟨b1, b2⟩ := lk_le okf
      have tk : (fs.take (i + 1)).map (lkF ns) = (fs.take i).map (lkF ns) ++ [((lkF ns f).1, (lkF ns f).2.1, (lkF ns f).2.2)] := by rw [List.take_add_one, ef, List.map_append]; rfl
      repeat infer_instance
      refine ⟨_, _, _, t, nd, kvs, ns, f, rfl, B, (F.fc _ B.tail.tail.tail).row i t f ht ef, B.get nd, tb, okf, fun k1 H B => ?_⟩
      generalize (lkF ns f).1 = u at b1 tk B
      generalize (lkF ns f).2.1 = v at b2 tk B
      generalize (lkF ns f).2.2 = ap at tk B
      have hu : u < (cut ns).length + 1 := by omega
      have hv : v < (cut ns).length + 1 := by omega
      repeat infer_instance
      refine s_gt B rfl ?_
      have B := B.tail
      repeat infer_instance
      refine s_ixH (B.get ps) (lsV_get _ hu) ?_
      repeat infer_instance
      refine s_ixH (B.get ps) (lsV_get _ hv) ?_
      repeat infer_instance
      rw [bx, bx]
      refine s_ixH (B.get pl) (lsV_get _ hu) ?_
      repeat infer_instance
      refine s_ixH (B.get pl) (lsV_get _ hv) ?_
      repeat infer_instance
      refine s_ixH (B.get pl) (lsV_get _ hu) ?_
      repeat infer_instance
      refine s_ixH (B.get pl) (lsV_get _ hv) ?_
      repeat infer_instance
      rcases Decidable.em (l u = l v) with e | e
      · rw [if_neg (show ¬ ((l v : Nat) : Int) < ((l u : Nat) : Int) by omega), if_neg (show ¬ ((l v : Nat) : Int) > ((l u : Nat) : Int) by omega), decide_eq_true rfl]
        refine iteF ?_
        repeat infer_instance
        refine iteD (fun h1 => ?_) (fun h1 => ?_)
        · have h1 := (bitN_n _).mp h1
          repeat infer_instance
          refine q0 (fun q hq => ?_) H B.tail.tail.tail
          have h2 := sat_take (i := i + 1) hq
          rw [← List.map_take, tk] at h2
          exact U.bad hu hv e h1 q h2
        · have h1 : (s u ^^ s v ^^ ap) = false := by
            cases z : (s u ^^ s v ^^ ap) with
            | false => rfl
            | true => exact absurd ((bitN_n _).mpr z) h1
          have U2 := U.skip hu hv e h1
          rw [← tk] at U2
          repeat infer_instance
          exact s_inn B ⟨l, s, _, _, _, _, _, _, _, rfl, U2, rfl⟩
      · obtain ⟨kp, dr, lt, hkd, e1, e2⟩ : ∃ kp dr, kp < dr ∧ ((l u = kp ∧ l v = dr) ∨ (l u = dr ∧ l v = kp)) ∧ (if ((l v : Nat) : Int) < ((l u : Nat) : Int) then ((l v : Nat) : Int) else ((l u : Nat) : Int)) = ((kp : Nat) : Int) ∧ (if ((l v : Nat) : Int) > ((l u : Nat) : Int) then ((l v : Nat) : Int) else ((l u : Nat) : Int)) = ((dr : Nat) : Int) := by
          rcases Nat.lt_or_ge (l u) (l v) with h | h
          · exact ⟨l u, l v, h, .inl ⟨rfl, rfl⟩, if_neg (by omega), if_pos (by omega)⟩
          · exact ⟨l v, l u, by omega, .inr ⟨rfl, rfl⟩, if_pos (by omega), if_neg (by omega)⟩
        rw [e1, e2, decide_eq_false (show ¬ ((kp : Nat) : Int) = ((dr : Nat) : Int) by omega)]
        refine iteT ?_
        repeat infer_instance
        refine ⟨_, _, _, pl, ps, (cut ns).length + 1, kp, dr, (s u ^^ s v ^^ ap), l, s, rfl, B, by omega, fun H B => ?_⟩
        have U2 := U.join (a := ap) hu hv lt hkd
        rw [← tk] at U2
        repeat infer_instance
        exact s_inn B ⟨_, _, _, _, _, _, _, _, _, rfl, U2, rfl⟩
    · rintro σ M H ⟨l, s, y6, y7, y8, y9, y10, y11, y12, rfl, U, rfl⟩ B
      rw [List.length_map, hts, List.take_length] at U
      repeat infer_instance
      refine s_newT B (show 2 ≤ sizeLine from by decide) fun t H B => ?_
      exact q1 t pl ps l s H U B.arr
def spContradict : Sp := fun vs H Q _ => ∃ (H0 : Hp) (T : List (Addr × Str)) (L : List Cell) (a b : Addr) (ns : List Int) (ts : List Addr) (fs : List Fc), vs = [.ref a, .ref b] ∧ Own H0 H T L ∧ FactsAt H0 T L a ns b ts fs ∧
  ∀ H', Own H0 H' T L → Q (.bl (dueF ns fs).isEmpty) H'
theorem u_contra {H0 H : Hp} {T : List (Addr × Str)} {L : List Cell} {a b : Addr} {ns : List Int} {ts : List Addr} {fs : List Fc} {Q : VK} {E : XK} (B : Own H0 H T L) (F : FactsAt H0 T L a ns b ts fs)
    (k : ∀ H', Own H0 H' T L → Q (.bl (dueF ns fs).isEmpty) H') : spContradict [.ref a, .ref b] H Q E := ⟨_, _, _, _, _, _, _, _, rfl, B, F, k⟩
theorem UF.some {ns : List Int} {fs : List Fc} {l : Nat → Nat} {s : Nat → Bool} (U : UF ((cut ns).length + 1) (fs.map (lkF ns)) l s) : (dueF ns fs).isEmpty = false := by
  have e : dueF ns fs = _ := U.due
  rw [e]
  cases h : allC 2 (freeL (cut ns).length l).length with
  | nil =>
    have := allC_len 2 (freeL (cut ns).length l).length
    rw [h] at this
    have h2 := Nat.two_pow_pos (freeL (cut ns).length l).length
    rw [← this] at h2
    exact absurd h2 (Nat.lt_irrefl _)
  | cons x xs => rfl
set_option maxHeartbeats 0 in
theorem ok_Contradict {f : Addr} {fd : FuncData} {k : Nat} (F : Fun K "contradict" "contradict" sContradict f fd) (Tx : Txt mg) (C_solve : Cal P w K mg base k "solve" ["result", "facts"] spSolve) : FnOk P w K mg base CX0 (k + 1) f fd ["result", "facts"] spContradict := by
  refine F.ok scContradict (fun vs H Q E h => ?_) (fun cdv A outer s H vs Q E hr h => ?_)
  · obtain ⟨_, _, _, a, b, ns, ts, fs, rfl, _⟩ := h
    rfl
  · obtain ⟨H0, T, L, a, b, ns, ts, fs, rfl, B, F, q⟩ := h
    refine ⟨_, (pss_one (ps_ret (pe_cmpR op_isN (pe_cal C_solve hr (by rfl) (pa_cons (pv 0) (pa_cons (pv 1) pa_nil))) pe_non (by rfl)))), ?_⟩
    repeat infer_instance
    refine u_solve B F (fun h H B => ?_) fun t pl ps l s H U B => ?_
    · repeat infer_instance
      refine ⟨rfl, ?_⟩
      have := q H B
      rw [(dueF_nil F.ok).mpr h] at this
      exact this
    · repeat infer_instance
      refine ⟨rfl, ?_⟩
      have := q H B.tail.tail.tail
      rw [U.some] at this
      exact this
end
end My
namespace My
open PySem PySem.Spec PyProof.Rows L2 LamX
local macro_rules | `(tactic| infer_instance) => `(tactic| first
  | with_reducible refine s_var (by with_unfolding_all exact rfl) ?_
  | with_reducible apply s_C
  | with_reducible apply s_op
  | with_reducible apply s_i0
  | with_reducible apply s_seq
  | with_reducible apply s_asg
  | with_reducible apply s_gn
  | with_reducible apply s_nil
  | with_reducible apply s_cons
  | with_reducible apply s_cb
  | with_reducible apply s_call
  | with_reducible apply s_un
  | with_reducible apply s_u
  | with_reducible apply s_test
  | with_reducible apply s_blV
  | with_reducible apply s_eqI
  | with_reducible apply s_neI
  | with_reducible apply s_ifs
  | with_reducible apply s_drop
  | with_reducible apply s_ret
  | with_reducible apply s_lst
  | with_reducible apply s_tup
  | with_reducible apply s_and
  | with_reducible apply s_or
  | with_reducible apply s_not
  | with_reducible apply s_tB
  | with_reducible apply s_bm
  | with_reducible apply s_bm0
  | with_reducible apply s_for
  | with_reducible apply s_iList
  | with_reducible apply s_iTup
  | with_reducible apply s_mndS
  | with_reducible apply s_srtS
  | with_reducible apply s_lc2S
  | with_reducible apply s_remS
  | with_reducible apply s_iRng
  | with_reducible apply s_iEnum
  | with_reducible apply s_iRng3
  | with_reducible apply s_iZip
  | with_reducible apply s_iZip3
  | with_reducible apply s_iRev
  | with_reducible apply s_get2S
  | with_reducible apply s_iEZ
  | with_reducible apply s_sl
  | with_reducible apply s_noPart
  | with_reducible apply s_part
  | with_reducible apply s_partI
  | with_reducible apply s_neS
  | with_reducible apply s_eqS
  | with_reducible apply s_lc
  | with_reducible apply s_dc
  | with_reducible apply s_dg
  | with_reducible apply s_di
  | with_reducible apply s_dni
  | with_reducible apply s_yes
  | with_reducible apply s_chain
  | with_reducible refine s_aug (by with_unfolding_all exact rfl) ?_
  | with_reducible apply s_ip
  | with_reducible apply s_revL
  | with_reducible apply s_gsub
  | with_reducible apply s_gslc
  | with_reducible apply s_parS
  | with_reducible apply s_par
  | with_reducible apply s_gc
  | with_reducible apply s_gnil
  | with_reducible apply s_brk
  | with_reducible apply s_cnt
  | with_reducible apply s_next
  | with_reducible apply s_andV
  | with_reducible apply s_orV
  | with_reducible apply s_notV
  | with_reducible apply s_isB
  | with_reducible apply s_notB
  | with_reducible apply s_max2
  | with_reducible apply s_min2
  | with_reducible apply s_abs
  | with_reducible apply s_intB
  | (with_reducible refine s_len (by assumption) ?_)
  | (with_reducible refine s_lenF (by assumption) ?_)
  | (with_reducible refine s_ty (by assumption) ?_)
  | (with_reducible refine s_tyF (by assumption) ?_)
  | (with_reducible refine s_i (by first | decide | exact cpow_ok (by decide) (by decide) (by decide) | exact cdivw (by decide) (by decide) | exact cmul_l (by decide) (by decide) | exact cmul_r (by decide) (by decide) | omega | exact cmul_l (by omega) (by omega) | exact cmul_r (by omega) (by omega)) ?_))

abbrev nLeastContradiction : List Str := ["result", "facts", "kept", "index", "fewer", "at"]
theorem scLeastContradiction : FnScope nLeastContradiction ["result", "facts"] (defScope sLeastContradiction) := ⟨rfl, rfl, rfl, by decide +kernel, rfl, by decide +kernel, by decide +kernel⟩

abbrev nContradictionOf : List Str := ["result", "facts"]
theorem scContradictionOf : FnScope nContradictionOf ["result", "facts"] (defScope sContradictionOf) := ⟨rfl, rfl, rfl, by decide +kernel, rfl, by decide +kernel, by decide +kernel⟩

/-- indices as ints -/
abbrev ixs (js : List Nat) : List Int := js.map fun j : Nat => (j : Int)
/-- those with these indices -/
def pk {α : Type} (xs : List α) (js : List Nat) : List α := js.filterMap fun j => xs[j]?
theorem pk_app {α : Type} (xs : List α) (is js : List Nat) : pk xs (is ++ js) = pk xs is ++ pk xs js := List.filterMap_append
theorem pk_one {α : Type} {xs : List α} {j : Nat} {x : α} (h : xs[j]? = some x) : pk xs [j] = [x] := by unfold pk; simp [h]
theorem pk_map {α β : Type} (f : α → β) (xs : List α) (js : List Nat) : pk (xs.map f) js = (pk xs js).map f := by
  unfold pk
  rw [List.map_filterMap]
  congr 1
  funext j
  rw [List.getElem?_map]
theorem pk_len {α : Type} {xs : List α} : ∀ {js : List Nat}, (∀ j ∈ js, j < xs.length) → (pk xs js).length = js.length
  | [], _ => rfl
  | j :: js, h => by
    have hj := h j (List.mem_cons_self ..)
    have e : xs[j]? = some xs[j] := List.getElem?_eq_getElem hj
    rw [show j :: js = [j] ++ js from rfl, pk_app, pk_one e, List.length_append, pk_len fun j hj => h j (List.mem_cons_of_mem _ hj), List.length_append]
    rfl
theorem pk_get {α : Type} {xs : List α} : ∀ {js : List Nat} {i j : Nat}, (∀ j ∈ js, j < xs.length) → js[i]? = some j → (pk xs js)[i]? = xs[j]?
  | [], i, j, _, h => by simp at h
  | k :: js, i, j, hb, h => by
    have hj := hb k (List.mem_cons_self ..)
    have e : xs[k]? = some xs[k] := List.getElem?_eq_getElem hj
    rw [show k :: js = [k] ++ js from rfl, pk_app, pk_one e]
    cases i with
    | zero => cases h; rw [e]; rfl
    | succ i => exact pk_get (js := js) (fun j hj => hb j (List.mem_cons_of_mem _ hj)) h
theorem pk_mem {α : Type} {xs : List α} {js : List Nat} {x : α} (h : x ∈ pk xs js) : ∃ j ∈ js, xs[j]? = some x := List.mem_filterMap.mp h
theorem pk_sub {α : Type} {xs : List α} {is js : List Nat} (h : ∀ j ∈ is, j ∈ js) : ∀ x ∈ pk xs is, x ∈ pk xs js := fun x hx => by
  obtain ⟨j, hj, e⟩ := pk_mem hx
  exact List.mem_filterMap.mpr ⟨j, h j hj, e⟩
theorem pk_all {α : Type} (xs : List α) : pk xs (List.range xs.length) = xs := by
  refine List.ext_getElem? fun i => ?_
  have hb : ∀ j ∈ List.range xs.length, j < xs.length := fun j hj => List.mem_range.mp hj
  by_cases hi : i < xs.length
  · exact pk_get hb (by rw [List.getElem?_range hi])
  · rw [List.getElem?_eq_none (by rw [pk_len hb, List.length_range]; omega), List.getElem?_eq_none (by omega)]
theorem FcsAt.pick {H : Hp} {b p : Addr} {ts : List Addr} {fs : List Fc} {js : List Nat} (F : FcsAt H b ts fs) (hb : ∀ j ∈ js, j < fs.length) (h : H p = some (.lst ((pk ts js).map V.ref))) : FcsAt H p (pk ts js) (pk fs js) := by
  have hb2 : ∀ j ∈ js, j < ts.length := fun j hj => by rw [F.len]; exact hb j hj
  refine ⟨h, by rw [pk_len hb2, pk_len hb], fun i t f h1 h2 => ?_⟩
  have hi : i < js.length := by have := (List.getElem?_eq_some_iff.mp h1).1; rwa [pk_len hb2] at this
  have ej : js[i]? = some js[i] := List.getElem?_eq_getElem hi
  rw [pk_get hb2 ej] at h1
  rw [pk_get hb ej] at h2
  exact F.row _ t f h1 h2
theorem dueF_sub {ns : List Int} {fs gs : List Fc} (s : ∀ f ∈ gs, f ∈ fs) (h : dueF ns gs = []) : dueF ns fs = [] := by
  cases e : dueF ns fs with
  | nil => rfl
  | cons as r =>
    have h1 : as ∈ dueF ns fs := by rw [e]; exact List.mem_cons_self ..
    obtain ⟨h2, h3⟩ := due_mem.mp h1
    have : as ∈ dueF ns gs := due_mem.mpr ⟨h2, fun c hc => by
      obtain ⟨f, hf, rfl⟩ := List.mem_map.mp hc
      exact h3 _ (List.mem_map_of_mem (s f hf))⟩
    rw [h] at this
    cases this
def lcStep (ns : List Int) (fs : List Fc) (kept : List Nat) (i : Nat) : List Nat := if (dueF ns (pk fs (kept.filter (· != i)))).isEmpty then kept.filter (· != i) else kept
def lcN (ns : List Int) (fs : List Fc) (n : Nat) : List Nat := (List.range n).foldl (lcStep ns fs) (List.range fs.length)
def lcF (ns : List Int) (fs : List Fc) : List Nat := lcN ns fs fs.length
theorem lcN_succ (ns : List Int) (fs : List Fc) (n : Nat) : lcN ns fs (n + 1) = lcStep ns fs (lcN ns fs n) n := by unfold lcN; rw [List.range_succ, List.foldl_append]; rfl
theorem lcStep_sub (ns : List Int) (fs : List Fc) (kept : List Nat) (i : Nat) : (lcStep ns fs kept i).Sublist kept := by
  unfold lcStep
  split
  · exact List.filter_sublist
  · exact List.Sublist.refl _
theorem lcN_sub (ns : List Int) (fs : List Fc) : ∀ n, (lcN ns fs n).Sublist (List.range fs.length)
  | 0 => List.Sublist.refl _
  | n + 1 => by rw [lcN_succ]; exact (lcStep_sub ..).trans (lcN_sub ns fs n)
theorem lcN_later (ns : List Int) (fs : List Fc) (n : Nat) : ∀ k, (lcN ns fs (n + k)).Sublist (lcN ns fs n)
  | 0 => List.Sublist.refl _
  | k + 1 => by rw [show n + (k + 1) = n + k + 1 from rfl, lcN_succ]; exact (lcStep_sub ..).trans (lcN_later ns fs n k)
/-- indices of facts that contradict each other, none of them left out -/
structure IsContra (ns : List Int) (fs : List Fc) (js : List Nat) : Prop where
  asc : js.Pairwise (· < ·)
  lt : ∀ j ∈ js, j < fs.length
  bad : dueF ns (pk fs js) = []
  min : ∀ j ∈ js, dueF ns (pk fs (js.filter (· != j))) ≠ []
theorem lcF_ok {ns : List Int} {fs : List Fc} (h : dueF ns fs = []) : IsContra ns fs (lcF ns fs) := by
  have s := lcN_sub ns fs fs.length
  have bad : ∀ n, dueF ns (pk fs (lcN ns fs n)) = [] := fun n => by
    induction n with
    | zero => show dueF ns (pk fs (List.range fs.length)) = []; rw [pk_all]; exact h
    | succ n ih =>
      rw [lcN_succ]
      unfold lcStep
      split
      · rename_i e; exact List.isEmpty_iff.mp e
      · exact ih
  refine ⟨List.pairwise_lt_range.sublist s, fun j hj => List.mem_range.mp (s.subset hj), bad _, fun j hj e => ?_⟩
  have jl : j < fs.length := List.mem_range.mp (s.subset hj)
  obtain ⟨k, hk⟩ : ∃ k, fs.length = j + 1 + k := ⟨fs.length - (j + 1), by omega⟩
  have l1 : (lcF ns fs).Sublist (lcN ns fs (j + 1)) := by unfold lcF; rw [hk]; exact lcN_later ns fs (j + 1) k
  have l2 := lcStep_sub ns fs (lcN ns fs j) j
  have hm := l1.subset hj
  rw [lcN_succ] at hm l1
  have e2 : dueF ns (pk fs ((lcN ns fs j).filter (· != j))) = [] := dueF_sub (pk_sub fun i hi => by
    obtain ⟨h1, h2⟩ := List.mem_filter.mp hi
    exact List.mem_filter.mpr ⟨l2.subset (l1.subset h1), h2⟩) e
  unfold lcStep at hm
  rw [e2, if_pos (show ([] : List (List Nat)).isEmpty = true from rfl)] at hm
  have := (List.mem_filter.mp hm).2
  simp at this
section
variable {P : Program} {w : World} {K : PySem.W.Frag} {mg : Str → Option Value} {base : Heap}
def spLeastContradiction : Sp := fun vs H Q _ => ∃ (H0 : Hp) (T : List (Addr × Str)) (L : List Cell) (a b : Addr) (ns : List Int) (ts : List Addr) (fs : List Fc), vs = [.ref a, .ref b] ∧ Own H0 H T L ∧ FactsAt H0 T L a ns b ts fs ∧
  ∀ p H', Own H0 H' T (.ob p (.lst ((ixs (lcF ns fs)).map V.int)) :: L) → Q (.ref p) H'
/-- [facts[at] for at in js] -/
theorem FactsAt.pick {H0 : Hp} {T : List (Addr × Str)} {L : List Cell} {a b p : Addr} {ns : List Int} {ts : List Addr} {fs : List Fc} {js : List Nat} (F : FactsAt H0 T L a ns b ts fs) (hb : ∀ j ∈ js, j < fs.length) (hl : js.length ≤ 1000) : FactsAt H0 T (.ob p (.lst ((pk ts js).map V.ref)) :: L) a ns p (pk ts js) (pk fs js) :=
  ⟨fun H' B => F.nu H' B.tail, fun H' B => (F.fc H' B.tail).pick hb (B.get p), F.nd, F.nl, fun f hf => by
    obtain ⟨j, _, e⟩ := pk_mem hf
    exact F.ok f (List.mem_of_getElem? e), by rw [pk_len hb]; exact hl⟩
set_option maxHeartbeats 0 in
theorem ok_LeastContradiction {f : Addr} {fd : FuncData} {k : Nat} (F : Fun K "least_contradiction" "least_contradiction" sLeastContradiction f fd) (Tx : Txt mg) (C_contradict : Cal P w K mg base k "contradict" ["result", "facts"] spContradict) : FnOk P w K mg base CX0 (k + 1) f fd ["result", "facts"] spLeastContradiction := by
  refine F.ok scLeastContradiction (fun vs H Q E h => ?_) (fun cdv A outer s H vs Q E hr h => ?_)
  · obtain ⟨_, _, _, a, b, ns, ts, fs, rfl, _⟩ := h
    rfl
  · obtain ⟨H0, T, L, a, b, ns, ts, fs, rfl, B, F, q⟩ := h
    refine ⟨_, (pss_cons (ps_set (i := 2) scLeastContradiction.nd rfl (.inl rfl) (pe_callTy ((call_listR (by rfl))) (by rfl) Tx.list (by decide +kernel) (pa_cons (pe_callTy (cr_rng1) (by rfl) Tx.range (by decide +kernel) (pa_cons (pe_callB (cl_len) (by rfl) Tx.len (by decide +kernel) (pa_cons (pv 1) pa_nil)) pa_nil)) pa_nil)))
 (pss_cons (ps_for PassesOwn.never rfl (pi_range1 (by rfl) Tx.range (pa_cons (pe_callB (cl_len) (by rfl) Tx.len (by decide +kernel) (pa_cons (pv 1) pa_nil)) pa_nil)) (pg_name (i := 3) scLeastContradiction.nd rfl (Or.inr rfl))
  (pss_cons (ps_setLc (i := 4) (te := (tVar 5)) (tt := (tTest (tOp rNe (tVar 5) (tVar 3)))) (own := [("at", 5)]) (g := (gName 5)) (by rfl) scLeastContradiction.nd rfl rfl (sw_true rfl rfl rfl (by decide +kernel)) (pi_list (pv 2)) (blkOk_by (own := [("at", 5)]) (N := nLeastContradiction) (sc := defScope sLeastContradiction) (by decide +kernel)) (fun _ _ _ _ _ => (pg_name (i := 5) scLeastContradiction.nd rfl (Or.inl rfl))) (fun _ _ _ _ _ => pts_one (pt_cmpR op_ne (pv 5) (pv 3) (by rfl))) (fun _ _ _ _ _ => (pv 5)))
 (pss_one (ps_if (pt_val (pe_cal C_contradict hr (by rfl) (pa_cons (pv 0) (pa_cons (pe_lc (te := (tOp (rIxL K) (tVar 1) (tVar 5))) (tt := tYes) (own := [("at", 5)]) (g := (gName 5)) (by rfl) scLeastContradiction.nd (pi_list (pv 4)) (blkOk_by (own := [("at", 5)]) (N := nLeastContradiction) (sc := defScope sLeastContradiction) (by decide +kernel)) (fun _ _ _ _ _ => (pg_name (i := 5) scLeastContradiction.nd rfl (Or.inl rfl))) (fun _ _ _ _ _ => pts_nil) (fun _ _ _ _ _ => (pe_ix ix_list (pv 1) (pv 5) (fun _ _ => rfl)))) pa_nil))))
  (pss_one (ps_set (i := 2) scLeastContradiction.nd rfl (.inl rfl) (pv 4))) pss_nil))))
 (pss_one (ps_ret (pv 2))))), ?_⟩
    have hts := (F.fc _ B).len
    have hfl := F.fl
    repeat infer_instance
    refine s_lenH (F.fc _ B).top ?_
    rw [List.length_map, hts]
    repeat infer_instance
    refine s_rng1 B fun rg H B => ?_
    repeat infer_instance
    refine s_listR (n := fs.length) B (by omega) fun pl H B => ?_
    have B : Own H0 H T (.ob pl (.lst ((ixs (lcN ns fs 0)).map V.int)) :: L) := (show Own H0 H T (.ob pl (.lst ((ixs (lcN ns fs 0)).map V.int)) :: .ob rg (.rng 0 (fs.length : Int)) :: L) from B).arr
    repeat infer_instance
    refine s_lenH (F.fc _ B.tail).top ?_
    rw [List.length_map, hts]
    repeat infer_instance
    refine s_itR (by omega) (by omega) ?_
    rw [Int.toNat_natCast]
    refine s_forR (fun i σ M => ∃ (pl : Addr) (y3 y4 : Option V), σ = [some (.ref a), some (.ref b), some (.ref pl), y3, y4, none] ∧ M = .ob pl (.lst ((ixs (lcN ns fs i)).map V.int)) :: L) B ⟨pl, none, none, rfl, rfl⟩ ?_ ?_
    · rintro i σ M H hi ⟨pl, y3, y4, rfl, rfl⟩ B
      have sb := lcN_sub ns fs i
      have hlk : (lcN ns fs i).length ≤ fs.length := by have := sb.length_le; rwa [List.length_range] at this
      have hb : ∀ j ∈ lcN ns fs i, j < fs.length := fun j hj => List.mem_range.mp (sb.subset hj)
      have es := lcN_succ ns fs i
      unfold lcStep at es
      generalize lcN ns fs i = js at *
      repeat infer_instance
      refine s_itH (B.get pl) ?_
      refine s_lcL (fun k acc M => acc = (ixs ((js.take k).filter (· != i))).map V.int ∧ M = .ob pl (.lst ((ixs js).map V.int)) :: L) ((ixs js).map V.int) B ⟨rfl, rfl⟩ ?_ (fun _ => rfl) ?_ ?_
      · rintro k acc M H ⟨_, rfl⟩ B
        exact SqL.of (B.get pl)
      · rintro Dc k x acc M H hx ⟨rfl, rfl⟩ B
        unfold ixs at hx
        rw [List.getElem?_map, List.getElem?_map] at hx
        cases ej : js[k]? with
        | none => rw [ej] at hx; cases hx
        | some j =>
          rw [ej] at hx
          have hx : V.int (j : Int) = x := Option.some.inj hx
          subst hx
          have tk : (js.take (k + 1)).filter (· != i) = (js.take k).filter (· != i) ++ (if j = i then [] else [j]) := by
            rw [List.take_add_one, ej, List.filter_append]
            congr 1
            by_cases e : j = i
            · rw [if_pos e]; simp [e]
            · rw [if_neg e]; simp [e]
          have hal : ((js.take k).filter (· != i)).length ≤ fs.length := by
            have h1 := List.length_filter_le (· != i) (js.take k)
            have h2 := (List.take_sublist k js).length_le
            omega
          repeat infer_instance
          refine iteND (fun h1 => ?_) (fun h1 => ?_)
          · repeat infer_instance
            refine s_el B (by rw [List.length_map]; unfold ixs; rw [List.length_map]; unfold sizeLine; omega) ⟨?_, rfl⟩
            rw [tk, if_neg (by omega)]
            unfold ixs
            rw [List.map_append, List.map_append]; rfl
          · refine NoEl.mk B ⟨?_, rfl⟩
            rw [tk, if_pos (by omega), List.append_nil]
      rintro pf acc M H ⟨rfl, rfl⟩ B
      have e9 : js.take ((ixs js).map V.int).length = js := List.take_of_length_le (by rw [List.length_map]; unfold ixs; rw [List.length_map]; exact Nat.le_refl _)
      rw [e9] at B
      have hb2 : ∀ j ∈ js.filter (· != i), j < fs.length := fun j hj => hb j (List.mem_filter.mp hj).1
      have hl2 : (js.filter (· != i)).length ≤ fs.length := by have := List.length_filter_le (· != i) js; omega
      generalize js.filter (· != i) = gs at *
      repeat infer_instance
      refine s_itH (B.get pf) ?_
      refine s_lcL (fun k acc M => acc = (pk ts (gs.take k)).map V.ref ∧ M = .ob pf (.lst ((ixs gs).map V.int)) :: .ob pl (.lst ((ixs js).map V.int)) :: L) ((ixs gs).map V.int) B ⟨rfl, rfl⟩ ?_ (fun _ => rfl) ?_ ?_
      · rintro k acc M H ⟨_, rfl⟩ B
        exact SqL.of (B.get pf)
      · rintro Dc k x acc M H hx ⟨rfl, rfl⟩ B
        unfold ixs at hx
        rw [List.getElem?_map, List.getElem?_map] at hx
        cases ej : gs[k]? with
        | none => rw [ej] at hx; cases hx
        | some j =>
          rw [ej] at hx
          have hx : V.int (j : Int) = x := Option.some.inj hx
          subst hx
          have hj := hb2 j (List.mem_of_getElem? ej)
          have et : ts[j]? = some (ts[j]'(by omega)) := List.getElem?_eq_getElem _
          repeat infer_instance
          refine iteT ?_
          repeat infer_instance
          refine s_ixH (F.fc _ B.tail.tail.tail).top (by rw [List.getElem?_map, et]; rfl) ?_
          refine s_el B ?_ ⟨?_, rfl⟩
          · rw [List.length_map]
            have h1 : (pk ts (gs.take k)).length ≤ (gs.take k).length := List.length_filterMap_le _ _
            have h2 := (List.take_sublist k gs).length_le
            unfold sizeLine
            omega
          · rw [List.take_add_one, ej, pk_app, List.map_append]
            show _ = _ ++ (pk ts [j]).map V.ref
            rw [pk_one et]; rfl
      rintro pc acc M H ⟨rfl, rfl⟩ B
      have e9 : gs.take ((ixs gs).map V.int).length = gs := List.take_of_length_le (by rw [List.length_map]; unfold ixs; rw [List.length_map]; exact Nat.le_refl _)
      rw [e9] at B
      repeat infer_instance
      refine u_contra B ((F.more.more).pick hb2 (by omega)) fun H B => ?_
      repeat infer_instance
      cases he : (dueF ns (pk fs gs)).isEmpty with
      | true =>
        rw [he, if_pos rfl] at es
        refine iteT ?_
        repeat infer_instance
        have B : Own H0 H T (.ob pf (.lst ((ixs gs).map V.int)) :: L) := B.arr
        rw [← es] at B
        exact s_inn B ⟨pf, _, _, rfl, rfl⟩
      | false =>
        rw [he] at es
        rw [if_neg (by decide)] at es
        refine iteF ?_
        repeat infer_instance
        have B : Own H0 H T (.ob pl (.lst ((ixs js).map V.int)) :: L) := B.arr
        rw [← es] at B
        exact s_inn B ⟨pl, _, _, rfl, rfl⟩
    · rintro σ M H ⟨pl, y3, y4, rfl, rfl⟩ B
      repeat infer_instance
      exact q pl H B
def spContradictionOf : Sp := fun vs H Q _ => ∃ (H0 : Hp) (T : List (Addr × Str)) (L : List Cell) (a b : Addr) (ns : List Int) (ts : List Addr) (fs : List Fc), vs = [.ref a, .ref b] ∧ Own H0 H T L ∧ FactsAt H0 T L a ns b ts fs ∧
  (dueF ns fs ≠ [] → ∀ H', Own H0 H' T L → Q .non H') ∧ (dueF ns fs = [] → ∀ p H', Own H0 H' T (.ob p (.lst ((ixs (lcF ns fs)).map V.int)) :: L) → Q (.ref p) H')
theorem u_contraOf {H0 H : Hp} {T : List (Addr × Str)} {L : List Cell} {a b : Addr} {ns : List Int} {ts : List Addr} {fs : List Fc} {Q : VK} {E : XK} (B : Own H0 H T L) (F : FactsAt H0 T L a ns b ts fs)
    (k0 : dueF ns fs ≠ [] → ∀ H', Own H0 H' T L → Q .non H') (k1 : dueF ns fs = [] → ∀ p H', Own H0 H' T (.ob p (.lst ((ixs (lcF ns fs)).map V.int)) :: L) → Q (.ref p) H') : spContradictionOf [.ref a, .ref b] H Q E := ⟨_, _, _, _, _, _, _, _, rfl, B, F, k0, k1⟩
set_option maxHeartbeats 0 in
theorem ok_ContradictionOf {f : Addr} {fd : FuncData} {k : Nat} (F : Fun K "contradiction_of" "contradiction_of" sContradictionOf f fd) (Tx : Txt mg) (C_require_facts : Cal P w K mg base k "require_facts" ["result", "facts"] spRequireFacts) (C_contradict : Cal P w K mg base k "contradict" ["result", "facts"] spContradict) (C_least_contradiction : Cal P w K mg base k "least_contradiction" ["result", "facts"] spLeastContradiction) : FnOk P w K mg base CX0 (k + 1) f fd ["result", "facts"] spContradictionOf := by
  refine F.ok scContradictionOf (fun vs H Q E h => ?_) (fun cdv A outer s H vs Q E hr h => ?_)
  · obtain ⟨_, _, _, a, b, ns, ts, fs, rfl, _⟩ := h
    rfl
  · obtain ⟨H0, T, L, a, b, ns, ts, fs, rfl, B, F, q0, q1⟩ := h
    refine ⟨_, (pss_cons (ps_expr (pe_cal C_require_facts hr (by rfl) (pa_cons (pv 0) (pa_cons (pv 1) pa_nil))))
 (pss_cons (ps_if (pt_val (pe_cal C_contradict hr (by rfl) (pa_cons (pv 0) (pa_cons (pv 1) pa_nil))))
  (pss_one (ps_ret (pe_cal C_least_contradiction hr (by rfl) (pa_cons (pv 0) (pa_cons (pv 1) pa_nil))))) pss_nil)
 (pss_one (ps_ret pe_non)))), ?_⟩
    repeat infer_instance
    refine u_reqFacts B F fun H B => ?_
    repeat infer_instance
    refine u_contra B F fun H B => ?_
    repeat infer_instance
    cases he : dueF ns fs with
    | nil =>
      refine iteT ?_
      repeat infer_instance
      exact ⟨_, _, _, _, _, _, _, _, rfl, B, F, fun p H B => q1 he p H B⟩
    | cons x xs =>
      refine iteF ?_
      repeat infer_instance
      exact q0 (by rw [he]; exact fun z => nomatch z) H B
end
end My
namespace My
open PySem PySem.Spec PyProof.Rows L2 LamX
section
variable {H0 H : Hp} {T : List (Addr × Str)} {L : List Cell} {σ : L2.St} {D : Ends} {g : TG} {s : TS} {t : TA} {i j : Int}
def ItR2 (vs : List V) (H : Hp) (R : It → Hp → Prop) : Prop := ∃ i j : Int, vs = [.int i, .int j] ∧ (-(2 ^ 62) ≤ i ∧ i < 2 ^ 62 ∧ -(2 ^ 62) ≤ j ∧ j < 2 ^ 62) ∧ R (Itr i (j - i).toNat) H
theorem s_iRng2 {R : It → Hp → Prop} (k : t σ H fun vs H1 => ItR2 vs H1 R) : iRng2 t σ H R := k
theorem s_itR2 {R : It → Hp → Prop} (h1 : -(2 ^ 62) ≤ i) (h2 : i < 2 ^ 62) (h3 : -(2 ^ 62) ≤ j) (h4 : j < 2 ^ 62) (k : R (Itr i (j - i).toNat) H) : ItR2 [.int i, .int j] H R := ⟨i, j, rfl, ⟨h1, h2, h3, h4⟩, k⟩
theorem s_forR2 {lo : Int} {n : Nat} (Pv : Nat → L2.St → List Cell → Prop) (B : Own H0 H T L) (start : Pv 0 σ L)
    (turn : ∀ i σ L H, i < n → Pv i σ L → Own H0 H T L → g (.int (lo + (i : Int))) σ H fun σ2 H2 => s { D with nx := Inn H0 T (Pv (i + 1)), ct := Inn H0 T (Pv (i + 1)), bk := D.nx } σ2 H2)
    (last : ∀ σ L H, Pv n σ L → Own H0 H T L → D.nx σ H) : ForG (Itr lo n) g s D σ H :=
  for_range (lo := lo) (n := n) (fun i => Inn H0 T (Pv i)) ⟨L, start, B⟩ (fun i σ H hi ⟨L, h, B⟩ => turn i σ L H hi h B) (fun σ H ⟨L, h, B⟩ => last σ L H h B)
end
end My
namespace My
open PySem PySem.Spec PyProof.Rows L2 LamX
section
variable {H0 H : Hp} {T : List (Addr × Str)} {L : List Cell} {σ : L2.St} {tt : TT} {te : TE} {kx : Nat} {vs : List Nat} {Q : VK}
/-- a comprehension over range(lo, ..) -/
theorem s_lcR2 {lo : Int} {n : Nat} (Pv : Nat → List V → List Cell → Prop) (B : Own H0 H T L) (start : Pv 0 [] L)
    (wp : ∀ x : V, wipe ((wipe σ vs).set kx (some x)) vs = wipe σ vs)
    (turn : ∀ D i acc L H, i < n → Pv i acc L → Own H0 H T (.ob D (.lst acc) :: L) → tt ((wipe σ vs).set kx (some (.int (lo + (i : Int))))) H fun b H3 =>
      if b = true then te ((wipe σ vs).set kx (some (.int (lo + (i : Int))))) H3 fun y H4 => ∃ acc, H4 D = some (.lst acc) ∧ acc.length < sizeLine ∧ NoEl H0 T D (Pv (i + 1)) (upd H4 D (.lst (acc ++ [y]))) else NoEl H0 T D (Pv (i + 1)) H3)
    (last : ∀ D acc L H, Pv n acc L → Own H0 H T (.ob D (.lst acc) :: L) → Q (.ref D) H) : LcG (Itr lo n) (gName kx) tt te vs σ Q H := fun D nD =>
  lc_range (lo := lo) (n := n) (fun i => NoEl H0 T D (Pv i)) ⟨[], L, B.new nD trivial, start⟩
    (fun i H hi ⟨acc, L, B, h⟩ => ⟨wp _, turn D i acc L H hi h B⟩) (fun H ⟨acc, L, B, h⟩ => last D acc L H h B)
end
end My
namespace My
open PySem PySem.Spec PyProof.Rows L2 LamX
local macro_rules | `(tactic| infer_instance) => `(tactic| first
  | with_reducible refine s_var (by with_unfolding_all exact rfl) ?_
  | with_reducible apply s_C
  | with_reducible apply s_op
  | with_reducible apply s_i0
  | with_reducible apply s_seq
  | with_reducible apply s_asg
  | with_reducible apply s_gn
  | with_reducible apply s_nil
  | with_reducible apply s_cons
  | with_reducible apply s_cb
  | with_reducible apply s_call
  | with_reducible apply s_un
  | with_reducible apply s_u
  | with_reducible apply s_test
  | with_reducible apply s_blV
  | with_reducible apply s_eqI
  | with_reducible apply s_neI
  | with_reducible apply s_ifs
  | with_reducible apply s_drop
  | with_reducible apply s_ret
  | with_reducible apply s_lst
  | with_reducible apply s_tup
  | with_reducible apply s_and
  | with_reducible apply s_or
  | with_reducible apply s_not
  | with_reducible apply s_tB
  | with_reducible apply s_bm
  | with_reducible apply s_bm0
  | with_reducible apply s_for
  | with_reducible apply s_iList
  | with_reducible apply s_iTup
  | with_reducible apply s_mndS
  | with_reducible apply s_srtS
  | with_reducible apply s_lc2S
  | with_reducible apply s_remS
  | with_reducible apply s_iRng
  | with_reducible apply s_iEnum
  | with_reducible apply s_iRng3
  | with_reducible apply s_iZip
  | with_reducible apply s_iZip3
  | with_reducible apply s_iRev
  | with_reducible apply s_get2S
  | with_reducible apply s_iEZ
  | with_reducible apply s_sl
  | with_reducible apply s_noPart
  | with_reducible apply s_part
  | with_reducible apply s_partI
  | with_reducible apply s_neS
  | with_reducible apply s_eqS
  | with_reducible apply s_lc
  | with_reducible apply s_dc
  | with_reducible apply s_dg
  | with_reducible apply s_di
  | with_reducible apply s_dni
  | with_reducible apply s_yes
  | with_reducible apply s_chain
  | with_reducible refine s_aug (by with_unfolding_all exact rfl) ?_
  | with_reducible apply s_ip
  | with_reducible apply s_revL
  | with_reducible apply s_gsub
  | with_reducible apply s_gslc
  | with_reducible apply s_parS
  | with_reducible apply s_par
  | with_reducible apply s_gc
  | with_reducible apply s_gnil
  | with_reducible apply s_brk
  | with_reducible apply s_cnt
  | with_reducible apply s_next
  | with_reducible apply s_andV
  | with_reducible apply s_orV
  | with_reducible apply s_notV
  | with_reducible apply s_isB
  | with_reducible apply s_notB
  | with_reducible apply s_max2
  | with_reducible apply s_min2
  | with_reducible apply s_abs
  | with_reducible apply s_intB
  | (with_reducible refine s_len (by assumption) ?_)
  | (with_reducible refine s_lenF (by assumption) ?_)
  | (with_reducible refine s_ty (by assumption) ?_)
  | (with_reducible refine s_tyF (by assumption) ?_)
  | (with_reducible refine s_i (by first | decide | exact cpow_ok (by decide) (by decide) (by decide) | exact cdivw (by decide) (by decide) | exact cmul_l (by decide) (by decide) | exact cmul_r (by decide) (by decide) | omega | exact cmul_l (by omega) (by omega) | exact cmul_r (by omega) (by omega)) ?_))

abbrev nIsAscending : List Str := ["value"]
theorem scIsAscending : FnScope nIsAscending ["value"] (defScope sIsAscending) := ⟨rfl, rfl, rfl, by decide +kernel, rfl, by decide +kernel, by decide +kernel⟩

abbrev nAreIndices : List Str := ["value", "many", "index"]
theorem scAreIndices : FnScope nAreIndices ["value", "many"] (defScope sAreIndices) := ⟨rfl, rfl, rfl, by decide +kernel, rfl, by decide +kernel, by decide +kernel⟩

abbrev nIsContradiction : List Str := ["result", "facts", "value", "index", "out"]
theorem scIsContradiction : FnScope nIsContradiction ["result", "facts", "value"] (defScope sIsContradiction) := ⟨rfl, rfl, rfl, by decide +kernel, rfl, by decide +kernel, by decide +kernel⟩

theorem asc_sorted {ns ms : List Int} (nd : ns.Nodup) (p : ms.Perm ns) (s : ms.Pairwise (· ≤ ·)) : ns = ms ↔ ns.Pairwise (· < ·) := by
  constructor
  · intro e
    subst e
    refine List.Pairwise.imp₂ (fun a b h1 h2 => ?_) s nd
    have : a ≠ b := h2
    omega
  · intro h
    exact (p.eq_of_pairwise (le := fun a b : Int => a ≤ b) (fun a b _ _ h1 h2 => Int.le_antisymm h1 h2) s (h.imp fun h => by omega)).symm
section
variable {P : Program} {w : World} {K : PySem.W.Frag} {mg : Str → Option Value} {base : Heap}
def spIsAscending : Sp := fun vs H Q _ => ∃ (H0 : Hp) (T : List (Addr × Str)) (L : List Cell) (a : Addr) (ns : List Int), vs = [.ref a] ∧ Own H0 H T L ∧ (∀ H', Own H0 H' T L → H' a = some (.lst (ns.map V.int))) ∧ ns.length ≤ 4000 ∧
  ∀ H' (x : Bool), (x = true ↔ ns.Pairwise (· < ·)) → Own H0 H' T L → Q (.bl x) H'
set_option maxHeartbeats 0 in
theorem ok_IsAscending {f : Addr} {fd : FuncData} {k : Nat} (F : Fun K "is_ascending" "is_ascending" sIsAscending f fd) (Tx : Txt mg) (C_is_numbers : Cal P w K mg base k "is_numbers" ["value"] spNums) : FnOk P w K mg base CX0 (k + 1) f fd ["value"] spIsAscending := by
  refine F.ok scIsAscending (fun vs H Q E h => ?_) (fun cdv A outer s H vs Q E hr h => ?_)
  · obtain ⟨_, _, _, a, ns, rfl, _⟩ := h
    rfl
  · obtain ⟨H0, T, L, a, ns, rfl, B, A, hl, q⟩ := h
    refine ⟨_, (pss_one (ps_ret (pe_and (pe_cal C_is_numbers hr (by rfl) (pa_cons (pv 0) pa_nil)) (pe_one (pe_cmpR (op_eqD hr.units) (pv 0) (pe_callB (cr_sortA) (by rfl) Tx.sorted (by decide +kernel) (pa_cons (pv 0) pa_nil)) (nomark _)))))), ?_⟩
    repeat infer_instance
    refine u_nums B (DX.ints A) (by show (ns.map PyData.int).length ≤ 4000; rw [List.length_map]; exact hl) fun H B => ?_
    repeat infer_instance
    have e : isNums (dI ns) = decide ns.Nodup := by
      show ((ns.map PyData.int).all isInt && decide (intsOf (ns.map PyData.int)).Nodup) = _
      rw [ints_isI, ints_ofI, Bool.true_and]
    rw [e]
    refine iteD (fun nd => ?_) (fun nd => ?_)
    · repeat infer_instance
      refine s_sortH B (A _ B) fun ms p H hp hs B => ?_
      repeat infer_instance
      refine s_eqDI (A _ B.tail) (B.get p) ?_
      refine q _ _ ?_ B.tail
      rw [decide_eq_true_iff]
      exact asc_sorted nd hp hs
    · exact q _ false ⟨fun z => Bool.noConfusion z, fun z => absurd (z.imp fun h => by omega) nd⟩ B
def spAreIndices : Sp := fun vs H Q _ => ∃ (H0 : Hp) (T : List (Addr × Str)) (L : List Cell) (a : Addr) (ns : List Int) (m : Nat), vs = [.ref a, .int (m : Int)] ∧ Own H0 H T L ∧ (∀ H', Own H0 H' T L → H' a = some (.lst (ns.map V.int))) ∧ ns.length ≤ 4000 ∧
  ∀ H' (x : Bool), (x = true ↔ ns.Pairwise (· < ·) ∧ ∀ i ∈ ns, 0 ≤ i ∧ i < m) → Own H0 H' T L → Q (.bl x) H'
set_option maxHeartbeats 0 in
theorem ok_AreIndices {f : Addr} {fd : FuncData} {k : Nat} (F : Fun K "are_indices" "are_indices" sAreIndices f fd) (Tx : Txt mg) (C_is_index : Cal P w K mg base k "is_index" ["value", "many"] spIsIndex) (C_is_ascending : Cal P w K mg base k "is_ascending" ["value"] spIsAscending) : FnOk P w K mg base CX0 (k + 1) f fd ["value", "many"] spAreIndices := by
  refine F.ok scAreIndices (fun vs H Q E h => ?_) (fun cdv A outer s H vs Q E hr h => ?_)
  · obtain ⟨_, _, _, a, ns, m, rfl, _⟩ := h
    rfl
  · obtain ⟨H0, T, L, a, ns, m, rfl, B, A, hl, q⟩ := h
    refine ⟨_, (pss_one (ps_ret (pe_and (pe_cal C_is_ascending hr (by rfl) (pa_cons (pv 0) pa_nil)) (pe_one (pe_callB ((cr_all (by rfl))) (by rfl) Tx.all (by decide +kernel) (pa_cons (pe_lc (te := (tCall spIsIndex [] E0 (tCons (tVar 2) (tCons (tVar 1) tNil)))) (tt := tYes) (own := [("index", 2)]) (g := (gName 2)) (by rfl) scAreIndices.nd (pi_list (pv 0)) (blkOk_by (own := [("index", 2)]) (N := nAreIndices) (sc := defScope sAreIndices) (by decide +kernel)) (fun _ _ _ _ _ => (pg_name (i := 2) scAreIndices.nd rfl (Or.inl rfl))) (fun _ _ _ _ _ => pts_nil) (fun _ _ _ _ _ => (pe_cal C_is_index hr (by rfl) (pa_cons (pv 2) (pa_cons (pv 1) pa_nil))))) pa_nil)))))), ?_⟩
    repeat infer_instance
    refine ⟨_, _, _, a, ns, rfl, B, A, hl, fun H x hx B => ?_⟩
    repeat infer_instance
    refine iteB _ (fun h => ?_) (fun h => ?_)
    · repeat infer_instance
      refine s_itH (A _ B) ?_
      refine s_lcL (fun i acc M => acc = ((ns.take i).map fun i => decide (0 ≤ i ∧ i < (m : Int))).map V.bl ∧ M = L) (ns.map V.int) B ⟨rfl, rfl⟩ ?_ (fun _ => rfl) ?_ ?_
      · rintro i acc M H ⟨_, rfl⟩ B
        exact SqL.of (A _ B)
      · rintro Dc i y acc M H hy ⟨rfl, rfl⟩ B
        rw [List.getElem?_map] at hy
        obtain ⟨z, hz, rfl⟩ := Option.map_eq_some_iff.mp hy
        have hi := (List.getElem?_eq_some_iff.mp hz).1
        repeat infer_instance
        refine iteT ?_
        repeat infer_instance
        refine ⟨_, _, rfl, ?_⟩
        refine s_el B (by rw [List.length_map, List.length_map, List.length_take]; unfold sizeLine; omega) ⟨?_, rfl⟩
        rw [List.take_add_one, hz, List.map_append, List.map_append]; rfl
      · rintro Dc acc M H ⟨rfl, rfl⟩ B
        rw [List.length_map, List.take_length] at B
        refine ⟨Dc, ns.map fun i => decide (0 ≤ i ∧ i < (m : Int)), rfl, SqL.of (B.get Dc), ?_⟩
        refine q _ _ ?_ B.tail
        rw [List.all_map, List.all_eq_true]
        exact ⟨fun h2 => ⟨hx.mp h, fun i hi => of_decide_eq_true (h2 i hi)⟩, fun h2 i hi => decide_eq_true (h2.2 i hi)⟩
    · refine q _ false ⟨fun z => Bool.noConfusion z, fun z => ?_⟩ B
      rw [hx.mpr z.1] at h
      cases h
def spIsContradiction : Sp := fun vs H Q _ => ∃ (H0 : Hp) (T : List (Addr × Str)) (L : List Cell) (a b v : Addr) (ns : List Int) (ts : List Addr) (fs : List Fc) (ms : List Int), vs = [.ref a, .ref b, .ref v] ∧ Own H0 H T L ∧ FactsAt H0 T L a ns b ts fs ∧ (∀ H', Own H0 H' T L → H' v = some (.lst (ms.map V.int))) ∧ ms.length ≤ 1000 ∧
  ∀ H' (x : Bool), (x = true ↔ ∃ js, ms = ixs js ∧ IsContra ns fs js) → Own H0 H' T L → Q (.bl x) H'
theorem u_isContra {H0 H : Hp} {T : List (Addr × Str)} {L : List Cell} {a b v : Addr} {ns : List Int} {ts : List Addr} {fs : List Fc} {ms : List Int} {Q : VK} {E : XK} (B : Own H0 H T L) (F : FactsAt H0 T L a ns b ts fs) (A : ∀ H', Own H0 H' T L → H' v = some (.lst (ms.map V.int))) (hl : ms.length ≤ 1000)
    (k : ∀ H' (x : Bool), (x = true ↔ ∃ js, ms = ixs js ∧ IsContra ns fs js) → Own H0 H' T L → Q (.bl x) H') : spIsContradiction [.ref a, .ref b, .ref v] H Q E := ⟨_, _, _, _, _, _, _, _, _, _, rfl, B, F, A, hl, k⟩
theorem ixs_of {ms : List Int} {m : Nat} (asc : ms.Pairwise (· < ·)) (rg : ∀ i ∈ ms, 0 ≤ i ∧ i < (m : Int)) : ∃ js : List Nat, ms = ixs js ∧ js.Pairwise (· < ·) ∧ ∀ j ∈ js, j < m := by
  refine ⟨ms.map Int.toNat, ?_, ?_, fun j hj => ?_⟩
  · unfold ixs
    rw [List.map_map]
    conv => lhs; rw [← List.map_id ms]
    exact List.map_congr_left fun i hi => by have := rg i hi; show i = ((i.toNat : Nat) : Int); omega
  · rw [List.pairwise_map]
    exact asc.imp_of_mem fun {a b} ha hb h => by have := rg a ha; have := rg b hb; omega
  · obtain ⟨i, hi, rfl⟩ := List.mem_map.mp hj
    have := rg i hi
    omega
theorem ixs_inj {is js : List Nat} (h : ixs is = ixs js) : is = js := (List.map_inj_right (fun x y e => Int.ofNat.inj e)).mp h
set_option maxHeartbeats 0 in
theorem ok_IsContradiction {f : Addr} {fd : FuncData} {k : Nat} (F : Fun K "is_contradiction" "is_contradiction" sIsContradiction f fd) (Tx : Txt mg) (C_are_indices : Cal P w K mg base k "are_indices" ["value", "many"] spAreIndices) (C_require_facts : Cal P w K mg base k "require_facts" ["result", "facts"] spRequireFacts) (C_contradict : Cal P w K mg base k "contradict" ["result", "facts"] spContradict) : FnOk P w K mg base CX0 (k + 1) f fd ["result", "facts", "value"] spIsContradiction := by
  refine F.ok scIsContradiction (fun vs H Q E h => ?_) (fun cdv A outer s H vs Q E hr h => ?_)
  · obtain ⟨_, _, _, a, b, v, ns, ts, fs, ms, rfl, _⟩ := h
    rfl
  · obtain ⟨H0, T, L, a, b, v, ns, ts, fs, ms, rfl, B, F, A, hl, q⟩ := h
    refine ⟨_, (pss_cons (ps_expr (pe_cal C_require_facts hr (by rfl) (pa_cons (pv 0) (pa_cons (pv 1) pa_nil))))
 (pss_cons (ps_if (PW.pt (pw_or (pt_not (pt_val (pe_cal C_are_indices hr (by rfl) (pa_cons (pv 2) (pa_cons (pe_callB (cl_len) (by rfl) Tx.len (by decide +kernel) (pa_cons (pv 1) pa_nil)) pa_nil))))) (pw_or1 (pt_not (pt_val (pe_cal C_contradict hr (by rfl) (pa_cons (pv 0) (pa_cons (pe_lc (te := (tOp (rIxL K) (tVar 1) (tVar 3))) (tt := tYes) (own := [("index", 3)]) (g := (gName 3)) (by rfl) scIsContradiction.nd (pi_list (pv 2)) (blkOk_by (own := [("index", 3)]) (N := nIsContradiction) (sc := defScope sIsContradiction) (by decide +kernel)) (fun _ _ _ _ _ => (pg_name (i := 3) scIsContradiction.nd rfl (Or.inl rfl))) (fun _ _ _ _ _ => pts_nil) (fun _ _ _ _ _ => (pe_ix ix_list (pv 1) (pv 3) (fun _ _ => rfl)))) pa_nil))))))))
  (pss_one (ps_ret pe_bl)) pss_nil)
 (pss_cons (ps_for PassesOwn.never rfl (pi_list (pv 2)) (pg_name (i := 4) scIsContradiction.nd rfl (Or.inr rfl))
  (pss_one (ps_if (pt_val (pe_cal C_contradict hr (by rfl) (pa_cons (pv 0) (pa_cons (pe_lc (te := (tOp (rIxL K) (tVar 1) (tVar 3))) (tt := (tTest (tOp rNe (tVar 3) (tVar 4)))) (own := [("index", 3)]) (g := (gName 3)) (by rfl) scIsContradiction.nd (pi_list (pv 2)) (blkOk_by (own := [("index", 3)]) (N := nIsContradiction) (sc := defScope sIsContradiction) (by decide +kernel)) (fun _ _ _ _ _ => (pg_name (i := 3) scIsContradiction.nd rfl (Or.inl rfl))) (fun _ _ _ _ _ => pts_one (pt_cmpR op_ne (pv 3) (pv 4) (by rfl))) (fun _ _ _ _ _ => (pe_ix ix_list (pv 1) (pv 3) (fun _ _ => rfl)))) pa_nil))))
  (pss_one (ps_ret pe_bl)) pss_nil)))
 (pss_one (ps_ret pe_bl))))), ?_⟩
    have hts := (F.fc _ B).len
    have hfl := F.fl
    repeat infer_instance
    refine u_reqFacts B F fun H B => ?_
    repeat infer_instance
    refine s_lenH (F.fc _ B).top ?_
    rw [List.length_map, hts]
    repeat infer_instance
    refine ⟨_, _, _, v, ms, fs.length, rfl, B, A, by omega, fun H x hx B => ?_⟩
    repeat infer_instance
    have no : ¬ (ms.Pairwise (· < ·) ∧ ∀ i ∈ ms, 0 ≤ i ∧ i < (fs.length : Int)) → ∀ H', Own H0 H' T L → Q (.bl false) H' := fun h H' B' => q H' false ⟨fun z => Bool.noConfusion z, fun ⟨js, e, C⟩ => absurd ⟨by
        rw [e]
        exact List.Pairwise.map _ (fun a b h => Int.ofNat_lt.mpr h) C.asc, fun i hi => by
        rw [e] at hi
        obtain ⟨j, hj, rfl⟩ := List.mem_map.mp hi
        have := C.lt j hj
        omega⟩ h⟩ B'
    cases x with
    | false =>
      refine iteT ?_
      refine iteT ?_
      repeat infer_instance
      exact no (fun z => Bool.noConfusion (hx.mpr z)) H B
    | true =>
    refine iteF ?_
    obtain ⟨asc, rg⟩ := hx.mp rfl
    obtain ⟨js, e, ja, jl⟩ := ixs_of asc rg
    subst e
    have hjl : js.length ≤ 1000 := by rw [List.length_map] at hl; exact hl
    repeat infer_instance
    refine s_itH (A _ B) ?_
    refine s_lcL (fun k acc M => acc = (pk ts (js.take k)).map V.ref ∧ L = M) ((ixs js).map V.int) B ⟨rfl, rfl⟩ ?_ (fun _ => rfl) ?_ ?_
    · rintro k acc M H ⟨_, rfl⟩ B
      exact SqL.of (A _ B)
    · rintro Dc k x acc M H hx ⟨rfl, rfl⟩ B
      unfold ixs at hx
      rw [List.getElem?_map, List.getElem?_map] at hx
      cases ej : js[k]? with
      | none => rw [ej] at hx; cases hx
      | some j =>
        rw [ej] at hx
        have hx : V.int (j : Int) = x := Option.some.inj hx
        subst hx
        have hj := jl j (List.mem_of_getElem? ej)
        have et : ts[j]? = some (ts[j]'(by omega)) := List.getElem?_eq_getElem _
        repeat infer_instance
        refine iteT ?_
        repeat infer_instance
        refine s_ixH (F.fc _ B.tail).top (by rw [List.getElem?_map, et]; rfl) ?_
        refine s_el B ?_ ⟨?_, rfl⟩
        · rw [List.length_map]
          have h1 : (pk ts (js.take k)).length ≤ (js.take k).length := List.length_filterMap_le _ _
          have h2 := (List.take_sublist k js).length_le
          unfold sizeLine
          omega
        · rw [List.take_add_one, ej, pk_app, List.map_append]
          show _ = _ ++ (pk ts [j]).map V.ref
          rw [pk_one et]; rfl
    rintro pc acc M H ⟨rfl, rfl⟩ B
    have e9 : js.take ((ixs js).map V.int).length = js := List.take_of_length_le (by rw [List.length_map]; unfold ixs; rw [List.length_map]; exact Nat.le_refl _)
    rw [e9] at B
    repeat infer_instance
    refine u_contra B (F.pick jl hjl) fun H B => ?_
    have B := B.tail
    repeat infer_instance
    cases he : dueF ns (pk fs js) with
    | cons x xs =>
      refine iteT ?_
      repeat infer_instance
      refine q H false ⟨fun z => Bool.noConfusion z, fun ⟨js', e', C⟩ => ?_⟩ B
      have := ixs_inj e'
      subst this
      rw [C.bad] at he
      cases he
    | nil =>
    refine iteF ?_
    repeat infer_instance
    refine s_itH (A _ B) ?_
    refine s_forL (fun i σ M => (∃ y4 : Option V, σ = [some (.ref a), some (.ref b), some (.ref v), none, y4]) ∧ (∀ j ∈ js.take i, dueF ns (pk fs (js.filter (· != j))) ≠ []) ∧ L = M) ((ixs js).map V.int) B ⟨⟨_, rfl⟩, (fun j h => nomatch h), rfl⟩ ?_ ?_ ?_
    · rintro i σ M H ⟨_, _, rfl⟩ B
      exact SqL.of (A _ B)
    · rintro i x σ M H hx ⟨⟨y4, rfl⟩, hmin, rfl⟩ B
      unfold ixs at hx
      rw [List.getElem?_map, List.getElem?_map] at hx
      cases eo : js[i]? with
      | none => rw [eo] at hx; cases hx
      | some o =>
      rw [eo] at hx
      have hx : V.int (o : Int) = x := Option.some.inj hx
      subst hx
      repeat infer_instance
      refine s_itH (A _ B) ?_
      refine s_lcL (fun k acc M => acc = (pk ts ((js.take k).filter (· != o))).map V.ref ∧ L = M) ((ixs js).map V.int) B ⟨rfl, rfl⟩ ?_ (fun _ => rfl) ?_ ?_
      · rintro k acc M H ⟨_, rfl⟩ B
        exact SqL.of (A _ B)
      · rintro Dc k x acc M H hx ⟨rfl, rfl⟩ B
        unfold ixs at hx
        rw [List.getElem?_map, List.getElem?_map] at hx
        cases ej : js[k]? with
        | none => rw [ej] at hx; cases hx
        | some j =>
          rw [ej] at hx
          have hx : V.int (j : Int) = x := Option.some.inj hx
          subst hx
          have hj := jl j (List.mem_of_getElem? ej)
          have et : ts[j]? = some (ts[j]'(by omega)) := List.getElem?_eq_getElem _
          have tk : (js.take (k + 1)).filter (· != o) = (js.take k).filter (· != o) ++ (if j = o then [] else [j]) := by
            rw [List.take_add_one, ej, List.filter_append]
            congr 1
            by_cases e : j = o
            · rw [if_pos e]; simp [e]
            · rw [if_neg e]; simp [e]
          repeat infer_instance
          refine iteND (fun h1 => ?_) (fun h1 => ?_)
          · repeat infer_instance
            refine s_ixH (F.fc _ B.tail).top (by rw [List.getElem?_map, et]; rfl) ?_
            refine s_el B ?_ ⟨?_, rfl⟩
            · rw [List.length_map]
              have h1 : (pk ts ((js.take k).filter (· != o))).length ≤ ((js.take k).filter (· != o)).length := List.length_filterMap_le _ _
              have h2 := (List.take_sublist k js).length_le
              have h3 := List.length_filter_le (· != o) (js.take k)
              unfold sizeLine
              omega
            · rw [tk, if_neg (by omega), pk_app, List.map_append, pk_one et]; rfl
          · refine NoEl.mk B ⟨?_, rfl⟩
            rw [tk, if_pos (by omega), List.append_nil]
      rintro pc acc M H ⟨rfl, rfl⟩ B
      rw [e9] at B
      repeat infer_instance
      refine u_contra B (F.pick (fun j hj => jl j (List.mem_filter.mp hj).1) (by have := List.length_filter_le (· != o) js; omega)) fun H B => ?_
      have B := B.tail
      repeat infer_instance
      cases he2 : dueF ns (pk fs (js.filter (· != o))) with
      | nil =>
        refine iteT ?_
        repeat infer_instance
        refine q H false ⟨fun z => Bool.noConfusion z, fun ⟨js', e', C⟩ => ?_⟩ B
        have := ixs_inj e'
        subst this
        exact absurd he2 (C.min o (List.mem_of_getElem? eo))
      | cons x xs =>
        refine iteF ?_
        repeat infer_instance
        refine s_inn B ⟨⟨_, rfl⟩, fun j hj => ?_, rfl⟩
        rw [List.take_add_one, eo] at hj
        rcases List.mem_append.mp hj with h | h
        · exact hmin j h
        · rw [show j = o from List.mem_singleton.mp h, he2]
          exact fun z => nomatch z
    · rintro σ M H ⟨⟨y4, rfl⟩, hmin, rfl⟩ B
      rw [e9] at hmin
      repeat infer_instance
      exact q H true ⟨fun _ => ⟨js, rfl, ja, jl, he, hmin⟩, fun _ => rfl⟩ B
end
end My
namespace My
open PySem PySem.Spec PyProof.Rows L2 LamX
/-! comparing lists of any values -/
/-- a value that can stand in a list that is compared -/
def odd1 (d : PyData) : Prop := d.canLay0 = true ∧ d.depth ≤ 50
theorem lay_all : ∀ {es : List PyData}, (∀ x ∈ es, odd1 x) → PyData.canLayAll0 es = true ∧ PyData.depthAll es ≤ 50
  | [], _ => ⟨rfl, Nat.zero_le _⟩
  | e :: es, h => by
    obtain ⟨h1, h2⟩ := lay_all fun x hx => h x (List.mem_cons_of_mem _ hx)
    obtain ⟨h3, h4⟩ := h e (List.mem_cons_self ..)
    exact ⟨by simp only [PyData.canLayAll0, h1, h3, Bool.and_self], by simp only [PyData.depthAll]; omega⟩
theorem shaped_all {es : List PyData} (h : ∀ x ∈ es, odd1 x) : SeqAt.shaped (.list es) = true := by
  obtain ⟨h1, h2⟩ := lay_all h
  unfold SeqAt.shaped
  rw [show (PyData.list es).canLay0 = true by simpa only [PyData.canLay0] using h1, Bool.true_and]
  exact decide_eq_true (by simp only [PyData.depth]; omega)
theorem nodict_all {es : List PyData} (h : ∀ x ∈ es, odd1 x) : PyData.hasDictAll es = false := PyData.hasDictAll_of_canLayAll es (lay_all h).1
theorem odd_int (i : Int) : odd1 (.int i) := ⟨rfl, Nat.zero_le _⟩
section
variable {K : PySem.W.Frag} {S : Hp → Prop} {H0 H : Hp} {T : List (Addr × Str)} {L L' : List Cell} {a b : Addr} {xs : List V} {es : List PyData} {ms : List Int} {Q : VK}
theorem s_neX (h1 : H a = some (.lst xs)) (D : DXs S xs es) (z : S H) (od : ∀ x ∈ es, odd1 x) (h2 : H b = some (.lst (ms.map V.int))) (k : Q (.bl (!PyData.eqv (.list es) (dI ms))) H) : rNeD K (.ref a) (.ref b) H Q :=
  ⟨.list es, dI ms, .lst (SqL.of h1) (DX.dpAll z es xs D (nodict_all od)), dpI (SqL.of h2), shaped_all od, shaped_I _, k⟩
theorem s_eqX (h1 : H a = some (.lst xs)) (D : DXs S xs es) (z : S H) (od : ∀ x ∈ es, odd1 x) (h2 : H b = some (.lst (ms.map V.int))) (k : Q (.bl (PyData.eqv (.list es) (dI ms))) H) : rEqD K (.ref a) (.ref b) H Q :=
  ⟨.list es, dI ms, .lst (SqL.of h1) (DX.dpAll z es xs D (nodict_all od)), dpI (SqL.of h2), shaped_all od, shaped_I _, k⟩
end
theorem eqv_nilX (es : List PyData) : PyData.eqv (.list es) (dI []) = es.isEmpty := by
  unfold dI
  rw [List.map_nil, eqv_empty]
theorem DXs.filt {S : Hp → Prop} (p : V → PyData → Bool) : ∀ {xs : List V} {ds : List PyData}, DXs S xs ds → DXs S (((xs.zip ds).filter fun z => p z.1 z.2).map Prod.fst) (((xs.zip ds).filter fun z => p z.1 z.2).map Prod.snd)
  | _, _, .nil => .nil
  | x :: xs, d :: ds, .cons h1 h2 => by
    have ih := DXs.filt p h2
    cases hp : p x d with
    | true =>
      simp only [List.zip_cons_cons, List.filter_cons, hp, if_true, List.map_cons]
      exact .cons h1 ih
    | false =>
      simp only [List.zip_cons_cons, List.filter_cons, hp]
      exact ih
theorem filt_mem {p : V → PyData → Bool} {xs : List V} {ds : List PyData} {d : PyData} (h : d ∈ ((xs.zip ds).filter fun z => p z.1 z.2).map Prod.snd) : d ∈ ds := by
  obtain ⟨⟨x, d'⟩, h1, rfl⟩ := List.mem_map.mp h
  exact (List.of_mem_zip (List.mem_filter.mp h1).1).2
theorem only_rows {later later' : List (List Int)} (e : dR later = dR later') : later' = later := by
  have e2 : (PyData.list (later.map dI)) = PyData.list (later'.map dI) := e
  injection e2 with e3
  have e4 : ∀ fam : List (List Int), (fam.map dI).map (fun d => intsOf (rowOf d)) = fam := fun fam => by
    rw [List.map_map]
    exact (List.map_congr_left fun f _ => ints_ofI f).trans (List.map_id _)
  rw [← e4 later', ← e3, e4]
theorem filt_snd {p : PyData → Bool} : ∀ {xs : List V} {ds : List PyData}, xs.length = ds.length → ((xs.zip ds).filter fun z => p z.2).map Prod.snd = ds.filter p
  | [], [], _ => rfl
  | [], _ :: _, e => by cases e
  | _ :: _, [], e => by cases e
  | x :: xs, d :: ds, e => by
    have ih := filt_snd (p := p) (xs := xs) (ds := ds) (by simpa using e)
    cases hp : p d with
    | true => simp only [List.zip_cons_cons, List.filter_cons, hp, if_true, List.map_cons, ih]
    | false =>
      simp only [List.zip_cons_cons, List.filter_cons, hp]
      exact ih
theorem filt_emp {p : PyData → Bool} : ∀ ds : List PyData, (ds.filter fun d => !p d).isEmpty = ds.all p
  | [] => rfl
  | d :: ds => by
    have ih := filt_emp (p := p) ds
    cases hp : p d with
    | true => simp only [List.filter_cons, hp, List.all_cons, Bool.true_and]; exact ih
    | false => simp [List.filter_cons, hp]
end My
namespace My
open PySem PySem.Spec PyProof.Rows L2 LamX
/-! lists of facts, compared and written -/
theorem FcsAt.dpA {K : PySem.W.Frag} {H : Hp} : ∀ {ts : List Addr} {fs : List Fc}, ts.length = fs.length → (∀ (i : Nat) (t : Addr) (f : Fc), ts[i]? = some t → fs[i]? = some f → H t = some (fcO f)) → DpAll K H (ts.map V.ref) (fs.map fcD)
  | [], [], _, _ => .nil
  | [], _ :: _, h, _ => by cases h
  | _ :: _, [], h, _ => by cases h
  | t :: ts, f :: fs, h, r => .cons (.tup (SqT.of (r 0 t f rfl rfl)) (.cons (.str _) (.cons (.int _) (.cons (.int _) .nil)))) (FcsAt.dpA (Nat.succ.inj h) fun i t' f' h1 h2 => r (i + 1) t' f' h1 h2)
theorem FcsAt.dp {K : PySem.W.Frag} {H : Hp} {a : Addr} {ts : List Addr} {fs : List Fc} (F : FcsAt H a ts fs) : Dp K H (.ref a) (.list (fs.map fcD)) := .lst (SqL.of F.top) (FcsAt.dpA F.len F.row)
theorem okF.str {ns : List Int} {f : Fc} (h : okF ns f) : f.1 = "in" ∨ f.1 = "same" ∨ f.1 = "apart" := by
  rcases h.2 with ⟨e, _⟩ | ⟨e, _⟩
  · exact .inl e
  · exact .inr e
theorem fc_odd {ns : List Int} {f : Fc} (h : okF ns f) : odd1 (fcD f) := by
  refine ⟨?_, by unfold fcD; simp only [PyData.depth, PyData.depthAll]; omega⟩
  unfold fcD
  rcases h.str with e | e | e <;> rw [e] <;> simp only [PyData.canLay0, PyData.canLayAll0] <;> decide +kernel
theorem s_neFc {K : PySem.W.Frag} {H : Hp} {a b : Addr} {ts us : List Addr} {ns : List Int} {fs : List Fc} {Q : VK} (F : FcsAt H a ts fs) (G : FcsAt H b us fs) (ok : ∀ f ∈ fs, okF ns f) (k : Q (.bl false) H) : rNeD K (.ref a) (.ref b) H Q := by
  have ho : ∀ x ∈ fs.map fcD, odd1 x := fun x hx => by
    obtain ⟨f, hf, rfl⟩ := List.mem_map.mp hx
    exact fc_odd (ok f hf)
  refine ⟨_, _, F.dp, G.dp, shaped_all ho, shaped_all ho, ?_⟩
  rw [SeqAt.eqv_refl _ (by simp only [PyData.canLay0]; exact (lay_all ho).1)]
  exact k
theorem s_isBo {K : PySem.W.Frag} {H : Hp} {b : Bool} {Q : VK} (k : Q (.bl true) H) : rIsi K [.bl b, .ty "bool"] H Q := ⟨.bl b, .ty "bool", .type "bool", .type "bool", true, rfl, .ty _, .base (.bl b), kit_ty (by decide +kernel), k⟩
theorem atI_end {xs : List V} {x : V} (h : xs.getLast? = some x) : atI xs (-1) = some x := by
  obtain ⟨ys, rfl⟩ := List.getLast?_eq_some_iff.mp h
  exact atI_last _ _
/-- facts and one more -/
theorem FcsAt.snoc {H : Hp} {a p t : Addr} {ts : List Addr} {fs : List Fc} {f : Fc} (F : FcsAt H a ts fs) (h : H p = some (.lst ((ts ++ [t]).map V.ref))) (ht : H t = some (fcO f)) : FcsAt H p (ts ++ [t]) (fs ++ [f]) := by
  refine ⟨h, by rw [List.length_append, List.length_append, F.len]; rfl, fun i t' f' h1 h2 => ?_⟩
  rcases Nat.lt_or_ge i ts.length with z | z
  · rw [List.getElem?_append_left z] at h1
    rw [List.getElem?_append_left (by rw [← F.len]; exact z)] at h2
    exact F.row i t' f' h1 h2
  · rw [List.getElem?_append_right z] at h1
    rw [List.getElem?_append_right (by rw [← F.len]; exact z), ← F.len] at h2
    cases hk : i - ts.length with
    | zero =>
      rw [hk] at h1 h2
      cases h1
      cases h2
      exact ht
    | succ k => rw [hk] at h1; simp at h1
theorem FactsAt.add {H0 : Hp} {T : List (Addr × Str)} {L : List Cell} {a b p t : Addr} {ns : List Int} {ts : List Addr} {fs : List Fc} {f : Fc} (F : FactsAt H0 T L a ns b ts fs) (ht : ∀ H', Own H0 H' T L → H' t = some (fcO f)) (ok : okF ns f) (hl : fs.length ≤ 999) : FactsAt H0 T (.ob p (.lst ((ts ++ [t]).map V.ref)) :: L) a ns p (ts ++ [t]) (fs ++ [f]) :=
  ⟨fun H' B => F.nu H' B.tail, fun H' B => (F.fc H' B.tail).snoc (B.get p) (ht H' B.tail), F.nd, F.nl, fun g hg => by
    rcases List.mem_append.mp hg with h | h
    · exact F.ok g h
    · rw [List.mem_singleton.mp h]; exact ok, by rw [List.length_append]; simp only [List.length_cons, List.length_nil]; omega⟩
/-- some assignment satisfies -/
theorem dueF_add {ns : List Int} {fs : List Fc} {f : Fc} {as : List Nat} : as ∈ dueF ns (fs ++ [f]) ↔ as ∈ dueF ns fs ∧ (qOf as (lkF ns f).1 ^^ qOf as (lkF ns f).2.1) = (lkF ns f).2.2 := by
  unfold dueF
  rw [due_mem, due_mem, List.map_append]
  show _ ∧ sat (qOf as) (fs.map (lkF ns) ++ [lkF ns f]) ↔ _
  rw [sat_snoc]
  exact ⟨fun h => ⟨⟨h.1, h.2.1⟩, h.2.2⟩, fun h => ⟨h.1.1, h.1.2, h.2⟩⟩
theorem dueF_subl (ns : List Int) (fs : List Fc) (f : Fc) : (dueF ns (fs ++ [f])).Sublist (dueF ns fs) := by
  have e : dueF ns (fs ++ [f]) = (dueF ns fs).filter fun as => (qOf as (lkF ns f).1 ^^ qOf as (lkF ns f).2.1) == (lkF ns f).2.2 := by
    unfold dueF due
    rw [List.filter_filter, List.map_append]
    refine List.filter_congr fun as _ => ?_
    unfold satB
    rw [List.all_append, Bool.and_comm]
    simp only [List.map_cons, List.map_nil, List.all_cons, List.all_nil, Bool.and_true]
  rw [e]
  exact List.filter_sublist
end My
namespace My
open PySem PySem.Spec PyProof.Rows L2 LamX
local macro_rules | `(tactic| infer_instance) => `(tactic| first
  | with_reducible refine s_var (by with_unfolding_all exact rfl) ?_
  | with_reducible apply s_C
  | with_reducible apply s_op
  | with_reducible apply s_i0
  | with_reducible apply s_seq
  | with_reducible apply s_asg
  | with_reducible apply s_gn
  | with_reducible apply s_nil
  | with_reducible apply s_cons
  | with_reducible apply s_cb
  | with_reducible apply s_call
  | with_reducible apply s_un
  | with_reducible apply s_u
  | with_reducible apply s_test
  | with_reducible apply s_blV
  | with_reducible apply s_eqI
  | with_reducible apply s_neI
  | with_reducible apply s_ifs
  | with_reducible apply s_drop
  | with_reducible apply s_ret
  | with_reducible apply s_lst
  | with_reducible apply s_tup
  | with_reducible apply s_and
  | with_reducible apply s_or
  | with_reducible apply s_not
  | with_reducible apply s_tB
  | with_reducible apply s_bm
  | with_reducible apply s_bm0
  | with_reducible apply s_for
  | with_reducible apply s_iList
  | with_reducible apply s_iTup
  | with_reducible apply s_mndS
  | with_reducible apply s_srtS
  | with_reducible apply s_lc2S
  | with_reducible apply s_remS
  | with_reducible apply s_iRng
  | with_reducible apply s_iEnum
  | with_reducible apply s_iRng3
  | with_reducible apply s_iZip
  | with_reducible apply s_iZip3
  | with_reducible apply s_iRev
  | with_reducible apply s_get2S
  | with_reducible apply s_iEZ
  | with_reducible apply s_sl
  | with_reducible apply s_noPart
  | with_reducible apply s_part
  | with_reducible apply s_partI
  | with_reducible apply s_neS
  | with_reducible apply s_eqS
  | with_reducible apply s_lc
  | with_reducible apply s_dc
  | with_reducible apply s_dg
  | with_reducible apply s_di
  | with_reducible apply s_dni
  | with_reducible apply s_yes
  | with_reducible apply s_chain
  | with_reducible refine s_aug (by with_unfolding_all exact rfl) ?_
  | with_reducible apply s_ip
  | with_reducible apply s_revL
  | with_reducible apply s_gsub
  | with_reducible apply s_gslc
  | with_reducible apply s_parS
  | with_reducible apply s_par
  | with_reducible apply s_gc
  | with_reducible apply s_gnil
  | with_reducible apply s_brk
  | with_reducible apply s_cnt
  | with_reducible apply s_next
  | with_reducible apply s_andV
  | with_reducible apply s_orV
  | with_reducible apply s_notV
  | with_reducible apply s_isB
  | with_reducible apply s_notB
  | with_reducible apply s_max2
  | with_reducible apply s_min2
  | with_reducible apply s_abs
  | with_reducible apply s_intB
  | (with_reducible refine s_len (by assumption) ?_)
  | (with_reducible refine s_lenF (by assumption) ?_)
  | (with_reducible refine s_ty (by assumption) ?_)
  | (with_reducible refine s_tyF (by assumption) ?_)
  | (with_reducible refine s_i (by first | decide | exact cpow_ok (by decide) (by decide) (by decide) | exact cdivw (by decide) (by decide) | exact cmul_l (by decide) (by decide) | exact cmul_r (by decide) (by decide) | omega | exact cmul_l (by omega) (by omega) | exact cmul_r (by omega) (by omega)) ?_))

abbrev nLawPot : List Str := ["script", "k", "cell"]
theorem scLawPot : FnScope nLawPot ["script", "k"] (defScope sLawPot) := ⟨rfl, rfl, rfl, by decide +kernel, rfl, by decide +kernel, by decide +kernel⟩

abbrev nLawTake : List Str := ["pot", "many", "found", "mixed"]
theorem scLawTake : FnScope nLawTake ["pot", "many"] (defScope sLawTake) := ⟨rfl, rfl, rfl, by decide +kernel, rfl, by decide +kernel, by decide +kernel⟩

/-- a can's three numbers, the third at most n -/
structure Drm (a b c : Int) (n : Nat) : Prop where
  a0 : 0 ≤ a
  b0 : 0 ≤ b
  b1 : b < 2 ^ 200
  c0 : 0 ≤ c
  c1 : c ≤ n
abbrev drl (a b c : Int) : HO := .lst [.int a, .int b, .int c]
def CanO (n : Nat) (o : HO) : Prop := ∃ a b c, o = drl a b c ∧ Drm a b c n
theorem Drm.up {a b c : Int} {n m : Nat} (d : Drm a b c n) (h : n ≤ m) : Drm a b c m := ⟨d.a0, d.b0, d.b1, d.c0, by have := d.c1; omega⟩
theorem CanO.up {n m : Nat} {o : HO} (c : CanO n o) (h : n ≤ m) : CanO m o := by
  obtain ⟨a, b, c, e, d⟩ := c
  exact ⟨a, b, c, e, d.up h⟩
theorem Own.up {H0 H : Hp} {T : List (Addr × Str)} {L : List Cell} {c : Cell} {D : Addr} {n m : Nat} (B : Own H0 H T (c :: .pr D (CanO n) :: L)) (h : n ≤ m) : Own H0 H T (c :: .pr D (CanO m) :: L) :=
  ⟨B.ex, B.tb, B.wf, B.nd, fun d hd => by
    rcases List.mem_cons.mp hd with e | e
    · rw [e]; exact B.head
    · rcases List.mem_cons.mp e with e2 | e2
      · obtain ⟨o, h1, h2, h3⟩ := B.tail.head
        rw [e2]; exact ⟨o, h1, h2, h3.up h⟩
      · exact B.ok d (List.mem_cons_of_mem _ (List.mem_cons_of_mem _ e2))⟩
theorem Own.upH {H0 H : Hp} {T : List (Addr × Str)} {L : List Cell} {D : Addr} {n m : Nat} (B : Own H0 H T (.pr D (CanO n) :: L)) (h : n ≤ m) : Own H0 H T (.pr D (CanO m) :: L) :=
  Own.conv (A := [.pr D (CanO n)]) (C := [.pr D (CanO m)]) B (List.Perm.refl _) fun k _ c hc => by
    obtain ⟨o, h1, h2, h3⟩ := k (.pr D (CanO n)) (by simp)
    rw [List.mem_singleton.mp hc]; exact ⟨o, h1, h2, h3.up h⟩
theorem Own.upD {H0 H : Hp} {T : List (Addr × Str)} {L L' : List Cell} {n m : Nat} (B : Own H0 H T L) (D : Addr) [P : Pull L D (.pr D (CanO n)) L'] (h : n ≤ m) : Own H0 H T (.pr D (CanO m) :: L') := (B.pull D).upH h
theorem abs_lt {x : Int} {b : Nat} (h0 : 0 ≤ x) (h : x < (2 ^ b : Nat)) : x.natAbs < 2 ^ b := by omega
theorem p37 : (0 : Int) < 10 ^ (37 : Int).toNat + 43 := by decide
theorem p41 : (0 : Int) < 10 ^ (41 : Int).toNat + 37 := by decide
theorem p40 : (0 : Int) < 10 ^ (40 : Int).toNat + 121 := by decide
section
variable {P : Program} {w : World} {K : PySem.W.Frag} {mg : Str → Option Value} {base : Heap}
def spLawPot (K : PySem.W.Frag) : Sp := fun vs H Q _ => ∃ (H0 : Hp) (T : List (Addr × Str)) (L : List Cell) (a : Addr) (ns : List Int) (j : Nat), vs = [.ref a, .int (j : Int)] ∧ Own H0 H T L ∧ SqL K H a (ns.map V.int) ∧ j ≤ 100 ∧
  ∀ D H', Own H0 H' T (.pr D (CanO 0) :: L) → Q (.ref D) H'
set_option maxHeartbeats 0 in
theorem ok_LawPot {f : Addr} {fd : FuncData} {k : Nat} (F : Fun K "_law_pot" "_law_pot" sLawPot f fd) (Tx : Txt mg)  : FnOk P w K mg base CX0 (k + 1) f fd ["script", "k"] (spLawPot K) := by
  refine F.ok scLawPot (fun vs H Q E h => ?_) (fun cdv A outer s H vs Q E hr h => ?_)
  · obtain ⟨_, _, _, a, ns, j, rfl, _⟩ := h
    rfl
  · obtain ⟨H0, T, L, a, ns, j, rfl, B, hS, hj, q⟩ := h
    refine ⟨_, (pss_cons (ps_set (i := 2) scLawPot.nd rfl (.inl rfl) pe_int)
 (pss_cons (ps_if (pt_cmpR op_lt (pv 1) (pe_callB (cl_len) (by rfl) Tx.len (by decide +kernel) (pa_cons (pv 0) pa_nil)) (nomark _))
  (pss_one (ps_set (i := 2) scLawPot.nd rfl (.inl rfl) (pe_ix ix_list (pv 0) (pv 1) (fun _ _ => rfl)))) pss_nil)
 (pss_one (ps_ret (pe_lst (pa_cons (pe_callB (cl_max2 (by rfl)) (by rfl) Tx.max (by decide +kernel) (pa_cons pe_int (pa_cons (pe_op op_sub (pv 2) (pe_op op_pow pe_int pe_int)) pa_nil))) (pa_cons (pe_op op_add (pe_op op_mod (pv 2) (pe_op op_add (pe_op op_pow pe_int pe_int) pe_int)) (pe_op op_mul pe_int (pv 1))) (pa_cons pe_int pa_nil)))))))), ?_⟩
    have fin : ∀ cell : Int, ∀ D H', Own H0 H' T (.ob D (drl (if cell - 10 ^ (18 : Int).toNat > 0 then cell - 10 ^ (18 : Int).toNat else 0) (cell % (10 ^ (37 : Int).toNat + 43) + 999331 * (j : Int)) 0) :: L) → Q (.ref D) H' := by
      intro cell D H' B
      have e37 : (10 : Int) ^ (37 : Int).toNat = 10 ^ 37 := rfl
      have l1 := Int.emod_nonneg cell (b := 10 ^ (37 : Int).toNat + 43) (by decide)
      have l2 := Int.emod_lt_of_pos cell (b := 10 ^ (37 : Int).toNat + 43) (by decide)
      refine q D H' (B.toP ⟨_, _, _, rfl, ?_, ?_, ?_, by decide, by decide⟩)
      · split <;> omega
      · rw [e37] at l1 ⊢; omega
      · rw [e37] at l2 ⊢; omega
    repeat infer_instance
    refine s_lenS hS ?_
    repeat infer_instance
    refine iteD (fun h1 => ?_) (fun h1 => ?_)
    · have hlt : j < ns.length := by rw [List.length_map] at h1; omega
      repeat infer_instance
      refine s_ixS hS (atI_nat (j := j) (by rw [List.getElem?_map, List.getElem?_eq_getElem hlt]; rfl)) ?_
      repeat infer_instance
      exact s_newL B (show 3 ≤ sizeLine by decide) (fin _)
    · repeat infer_instance
      exact s_newL B (show 3 ≤ sizeLine by decide) (fin _)
def spLawTake : Sp := fun vs H Q _ => ∃ (H0 : Hp) (T : List (Addr × Str)) (L : List Cell) (D : Addr) (z : Int) (n : Nat), vs = [.ref D, .int z] ∧ Own H0 H T (.pr D (CanO n) :: L) ∧ n ≤ 1000000 ∧ 1 ≤ z ∧ z < 2 ^ 100 ∧
  ∀ (v : Nat) H', Own H0 H' T (.pr D (CanO (n + 1)) :: L) → (v : Int) < z → Q (.int (v : Int)) H'
theorem u_take {H0 H : Hp} {T : List (Addr × Str)} {L L' : List Cell} {D : Addr} {z : Int} {n : Nat} {Q : VK} {E : XK} (B : Own H0 H T L) [P : Pull L D (.pr D (CanO n)) L'] (hn : n ≤ 1000000) (h1 : 1 ≤ z) (h2 : z < 2 ^ 100)
    (k : ∀ (v : Nat) H', Own H0 H' T (.pr D (CanO (n + 1)) :: L') → (v : Int) < z → Q (.int (v : Int)) H') : spLawTake [.ref D, .int z] H Q E := ⟨_, _, _, _, _, _, rfl, B.pull D, hn, h1, h2, k⟩
set_option maxHeartbeats 0 in
theorem ok_LawTake {f : Addr} {fd : FuncData} {k : Nat} (F : Fun K "_law_take" "_law_take" sLawTake f fd) (Tx : Txt mg)  : FnOk P w K mg base CX0 (k + 1) f fd ["pot", "many"] spLawTake := by
  refine F.ok scLawTake (fun vs H Q E h => ?_) (fun cdv A outer s H vs Q E hr h => ?_)
  · obtain ⟨_, _, _, D, z, n, rfl, _⟩ := h
    rfl
  · obtain ⟨H0, T, L, D, z, n, rfl, B, hn, hz, hz2, q⟩ := h
    refine ⟨_, (pss_cons (ps_if (pt_cmpR op_gt (pe_ix ix_list (pv 0) pe_int (fun _ _ => rfl)) pe_int (by rfl))
  (pss_cons (ps_set (i := 2) scLawTake.nd rfl (.inl rfl) (pe_op op_mod (pe_ix ix_list (pv 0) pe_int (fun _ _ => rfl)) (pv 1)))
 (pss_cons (ps_asg (pe_op op_fdivW (pe_ix ix_list (pv 0) pe_int (fun _ _ => rfl)) (pv 1)) (pg_sub (pv 0) pe_int set_list))
 (pss_one (ps_ret (pv 2))))) pss_nil)
 (pss_cons (ps_asg (pe_op op_add (pe_ix ix_list (pv 0) pe_int (fun _ _ => rfl)) pe_int) (pg_sub (pv 0) pe_int set_list))
 (pss_cons (ps_set (i := 3) scLawTake.nd rfl (.inl rfl) (pe_op op_mod (pe_op op_pw (pe_op op_add (pe_ix ix_list (pv 0) pe_int (fun _ _ => rfl)) (pe_op op_mul pe_int (pe_ix ix_list (pv 0) pe_int (fun _ _ => rfl)))) pe_int) (pe_op op_add (pe_op op_pow pe_int pe_int) pe_int)))
 (pss_cons (ps_set (i := 3) scLawTake.nd rfl (.inl rfl) (pe_op op_mod (pe_op op_pw (pe_op op_add (pv 3) (pe_op op_mul pe_int (pe_ix ix_list (pv 0) pe_int (fun _ _ => rfl)))) pe_int) (pe_op op_add (pe_op op_pow pe_int pe_int) pe_int)))
 (pss_one (ps_ret (pe_op op_mod (pe_op op_fdivW (pv 3) pe_int) (pv 1)))))))), ?_⟩
    obtain ⟨o, ⟨a, b, c, rfl, hd⟩, B⟩ := B.ofP
    have fin : ∀ (x : Int) (y : V → Hp → Prop), True := fun _ _ => trivial
    repeat infer_instance
    refine s_ix B (i := 0) rfl ?_
    repeat infer_instance
    refine iteD (fun e => ?_) (fun e => ?_)
    · repeat infer_instance
      refine s_ix B (i := 0) rfl ?_
      repeat infer_instance
      refine s_ix B (i := 0) rfl ?_
      repeat infer_instance
      refine s_i (wide_div (b := 100) (by omega) (abs_lt (by omega) hz2) (by decide) (by decide)) ?_
      repeat infer_instance
      refine s_setL (n := 0) B (by exact (show 0 < 3 by decide)) fun H1 B1 => ?_
      repeat infer_instance
      obtain ⟨v, hv⟩ := natv (Int.emod_nonneg a (b := z) (by omega))
      rw [hv]
      refine q v H1 (B1.toP ⟨_, _, _, rfl, Int.ediv_nonneg hd.a0 (by omega), hd.b0, hd.b1, hd.c0, ?_⟩) ?_
      · have := hd.c1; omega
      · rw [← hv]; exact Int.emod_lt_of_pos _ (by omega)
    · have hb := hd.b0
      have hb1 := hd.b1
      have hc := hd.c0
      have hc1 := hd.c1
      repeat infer_instance
      refine s_ix B (i := 2) rfl ?_
      repeat infer_instance
      refine s_setL (n := 2) B (by exact (show 2 < 3 by decide)) fun H1 B1 => ?_
      repeat infer_instance
      refine s_ix B1 (i := 1) rfl ?_
      repeat infer_instance
      refine s_ix B1 (i := 2) rfl ?_
      repeat infer_instance
      refine s_i (pw_ok (b := 250) (by decide) (by decide) (abs_lt (by omega) (by omega)) (by decide) (by decide)) ?_
      repeat infer_instance
      have m0 := Int.emod_nonneg ((b + 51090942171709440001 * (c + 1)) ^ (3 : Int).toNat) (b := 10 ^ (41 : Int).toNat + 37) (by decide)
      have m2 := Int.emod_lt_of_pos ((b + 51090942171709440001 * (c + 1)) ^ (3 : Int).toNat) p41
      generalize ((b + 51090942171709440001 * (c + 1)) ^ (3 : Int).toNat) % (10 ^ (41 : Int).toNat + 37) = m1 at m0 m2 ⊢
      have m3 : m1 < 2 ^ 150 := Int.lt_trans m2 (by decide)
      refine s_ix B1 (i := 2) rfl ?_
      repeat infer_instance
      refine s_i (pw_ok (b := 250) (by decide) (by decide) (abs_lt (by omega) (by omega)) (by decide) (by decide)) ?_
      repeat infer_instance
      have k0 := Int.emod_nonneg ((m1 + 1124000727777607680001 * (c + 1)) ^ (3 : Int).toNat) (b := 10 ^ (40 : Int).toNat + 121) (by decide)
      generalize ((m1 + 1124000727777607680001 * (c + 1)) ^ (3 : Int).toNat) % (10 ^ (40 : Int).toNat + 121) = m4 at k0 ⊢
      obtain ⟨v, hv⟩ := natv (Int.emod_nonneg (m4 / 1000003) (b := z) (by omega))
      rw [hv]
      refine q v H1 (B1.toP ⟨_, _, _, rfl, hd.a0, hd.b0, hd.b1, by omega, by omega⟩) ?_
      rw [← hv]; exact Int.emod_lt_of_pos _ (by omega)
end
end My
namespace My
open PySem PySem.Spec PyProof.Rows L2 LamX
local macro_rules | `(tactic| infer_instance) => `(tactic| first
  | with_reducible refine s_var (by with_unfolding_all exact rfl) ?_
  | with_reducible apply s_C
  | with_reducible apply s_op
  | with_reducible apply s_i0
  | with_reducible apply s_seq
  | with_reducible apply s_asg
  | with_reducible apply s_gn
  | with_reducible apply s_nil
  | with_reducible apply s_cons
  | with_reducible apply s_cb
  | with_reducible apply s_call
  | with_reducible apply s_un
  | with_reducible apply s_u
  | with_reducible apply s_test
  | with_reducible apply s_blV
  | with_reducible apply s_eqI
  | with_reducible apply s_neI
  | with_reducible apply s_ifs
  | with_reducible apply s_drop
  | with_reducible apply s_ret
  | with_reducible apply s_lst
  | with_reducible apply s_tup
  | with_reducible apply s_and
  | with_reducible apply s_or
  | with_reducible apply s_not
  | with_reducible apply s_tB
  | with_reducible apply s_bm
  | with_reducible apply s_bm0
  | with_reducible apply s_for
  | with_reducible apply s_iList
  | with_reducible apply s_iTup
  | with_reducible apply s_mndS
  | with_reducible apply s_srtS
  | with_reducible apply s_lc2S
  | with_reducible apply s_remS
  | with_reducible apply s_iRng
  | with_reducible apply s_iEnum
  | with_reducible apply s_iRng3
  | with_reducible apply s_iZip
  | with_reducible apply s_iZip3
  | with_reducible apply s_iRev
  | with_reducible apply s_get2S
  | with_reducible apply s_iEZ
  | with_reducible apply s_sl
  | with_reducible apply s_noPart
  | with_reducible apply s_part
  | with_reducible apply s_partI
  | with_reducible apply s_neS
  | with_reducible apply s_eqS
  | with_reducible apply s_lc
  | with_reducible apply s_dc
  | with_reducible apply s_dg
  | with_reducible apply s_di
  | with_reducible apply s_dni
  | with_reducible apply s_yes
  | with_reducible apply s_chain
  | with_reducible refine s_aug (by with_unfolding_all exact rfl) ?_
  | with_reducible apply s_ip
  | with_reducible apply s_revL
  | with_reducible apply s_gsub
  | with_reducible apply s_gslc
  | with_reducible apply s_parS
  | with_reducible apply s_par
  | with_reducible apply s_gc
  | with_reducible apply s_gnil
  | with_reducible apply s_brk
  | with_reducible apply s_cnt
  | with_reducible apply s_next
  | with_reducible apply s_andV
  | with_reducible apply s_orV
  | with_reducible apply s_notV
  | with_reducible apply s_isB
  | with_reducible apply s_notB
  | with_reducible apply s_max2
  | with_reducible apply s_min2
  | with_reducible apply s_abs
  | with_reducible apply s_intB
  | (with_reducible refine s_len (by assumption) ?_)
  | (with_reducible refine s_lenF (by assumption) ?_)
  | (with_reducible refine s_ty (by assumption) ?_)
  | (with_reducible refine s_tyF (by assumption) ?_)
  | (with_reducible refine s_i (by first | decide | exact cpow_ok (by decide) (by decide) (by decide) | exact cdivw (by decide) (by decide) | exact cmul_l (by decide) (by decide) | exact cmul_r (by decide) (by decide) | omega | exact cmul_l (by omega) (by omega) | exact cmul_r (by omega) (by omega)) ?_))

abbrev nLawSome : List Str := ["pot", "things", "many", "left", "k"]
theorem scLawSome : FnScope nLawSome ["pot", "things", "many"] (defScope sLawSome) := ⟨rfl, rfl, rfl, by decide +kernel, rfl, by decide +kernel, by decide +kernel⟩

theorem eraseV {α : Type} {xs : List α} {i : Nat} {x : α} (h : xs[i]? = some x) : (x :: xs.eraseIdx i).Perm xs := by
  obtain ⟨hi, e⟩ := List.getElem?_eq_some_iff.mp h
  have e1 : xs = xs.take i ++ x :: xs.drop (i + 1) := by rw [← e]; simp
  rw [List.eraseIdx_eq_take_drop_succ]
  conv => rhs; rw [e1]
  exact List.perm_middle.symm
/-- the ints among values -/
def vI : V → Int
  | .int i => i
  | _ => 0
theorem perm_ints {out rest : List V} {ns : List Int} (p : (out ++ rest).Perm (ns.map V.int)) : ∃ o r : List Int, out = o.map V.int ∧ rest = r.map V.int ∧ (o ++ r).Perm ns := by
  have key : ∀ xs : List V, (∀ x ∈ xs, x ∈ ns.map V.int) → xs = (xs.map vI).map V.int := fun xs h => by
    rw [List.map_map]
    conv => lhs; rw [← List.map_id xs]
    refine List.map_congr_left fun x hx => ?_
    obtain ⟨i, _, rfl⟩ := List.mem_map.mp (h x hx)
    rfl
  refine ⟨out.map vI, rest.map vI, key out fun x hx => p.mem_iff.mp (List.mem_append_left _ hx), key rest fun x hx => p.mem_iff.mp (List.mem_append_right _ hx), ?_⟩
  have := p.map vI
  rw [List.map_append, List.map_map] at this
  have e : (vI ∘ V.int) = id := rfl
  rw [e, List.map_id] at this
  exact this
section
variable {P : Program} {w : World} {K : PySem.W.Frag} {mg : Str → Option Value} {base : Heap}
def spLawSome : Sp := fun vs H Q _ => ∃ (H0 : Hp) (T : List (Addr × Str)) (L : List Cell) (D a : Addr) (ns : List V) (m n : Nat), vs = [.ref D, .ref a, .int (m : Int)] ∧ Own H0 H T (.pr D (CanO n) :: L) ∧ H a = some (.lst ns) ∧ m ≤ ns.length ∧ ns.length ≤ 10000 ∧ n ≤ 900000 ∧
  ∀ p (out rest : List V) H', out.length = m → (out ++ rest).Perm ns → Own H0 H' T (.ob p (.lst out) :: .pr D (CanO (n + m)) :: L) → Q (.ref p) H'
theorem u_someV {H0 H : Hp} {T : List (Addr × Str)} {L L' : List Cell} {D a : Addr} {ns : List V} {m : Int} {n : Nat} {Q : VK} {E : XK} (B : Own H0 H T L) [P : Pull L D (.pr D (CanO n)) L'] (h : H a = some (.lst ns)) (h0 : 0 ≤ m) (h1 : m ≤ (ns.length : Int)) (h2 : ns.length ≤ 10000) (hn : n ≤ 900000)
    (k : ∀ p (out rest : List V) H', (out.length : Int) = m → (out ++ rest).Perm ns → Own H0 H' T (.ob p (.lst out) :: .pr D (CanO (n + m.toNat)) :: L') → Q (.ref p) H') : spLawSome [.ref D, .ref a, .int m] H Q E := by
  have e : m = ((m.toNat : Nat) : Int) := by omega
  exact ⟨_, _, _, D, a, ns, m.toNat, n, by rw [← e], B.pull D, h, by omega, h2, hn, fun p out rest H' ho => k p out rest H' (by omega)⟩
theorem u_some {H0 H : Hp} {T : List (Addr × Str)} {L L' : List Cell} {D a : Addr} {ns : List Int} {m : Int} {n : Nat} {Q : VK} {E : XK} (B : Own H0 H T L) [P : Pull L D (.pr D (CanO n)) L'] (h : H a = some (.lst (ns.map V.int))) (h0 : 0 ≤ m) (h1 : m ≤ (ns.length : Int)) (h2 : ns.length ≤ 10000) (hn : n ≤ 900000)
    (k : ∀ p (out rest : List Int) H', (out.length : Int) = m → (out ++ rest).Perm ns → Own H0 H' T (.ob p (.lst (out.map V.int)) :: .pr D (CanO (n + m.toNat)) :: L') → Q (.ref p) H') : spLawSome [.ref D, .ref a, .int m] H Q E := by
  refine u_someV B h h0 (by rw [List.length_map]; exact h1) (by rw [List.length_map]; exact h2) hn fun p out rest H' ho pm B => ?_
  obtain ⟨o, r, rfl, rfl, pm2⟩ := perm_ints pm
  exact k p o r H' (by rw [List.length_map] at ho; exact ho) pm2 B
set_option maxHeartbeats 0 in
theorem ok_LawSome {f : Addr} {fd : FuncData} {k : Nat} (F : Fun K "_law_some" "_law_some" sLawSome f fd) (Tx : Txt mg) (C__law_take : Cal P w K mg base k "_law_take" ["pot", "many"] spLawTake) : FnOk P w K mg base CX0 (k + 1) f fd ["pot", "things", "many"] spLawSome := by
  refine F.ok scLawSome (fun vs H Q E h => ?_) (fun cdv A outer s H vs Q E hr h => ?_)
  · obtain ⟨_, _, _, D, a, ns, m, n, rfl, _⟩ := h
    rfl
  · obtain ⟨H0, T, L, D, a, ns, m, n, rfl, B, ha, hm, hl, hn, q⟩ := h
    refine ⟨_, (pss_cons (ps_set (i := 3) scLawSome.nd rfl (.inr rfl) (pe_callTy (cl_list) (by rfl) Tx.list (by decide +kernel) (pa_cons (pv 1) pa_nil)))
 (pss_one (ps_ret (pe_lc (te := (tBM K "list" rPopAt (tVar 3) (tCons (tCall spLawTake [] E0 (tCons (tVar 0) (tCons (tCB (rLenK K) (tCons (tVar 3) tNil)) tNil))) tNil))) (tt := tYes) (own := [("k", 4)]) (g := (gName 4)) (by rfl) scLawSome.nd (pi_range1 (by rfl) Tx.range (pa_cons (pv 2) pa_nil)) (blkOk_by (own := [("k", 4)]) (N := nLawSome) (sc := defScope sLawSome) (by decide +kernel)) (fun _ _ _ _ _ => (pg_name (i := 4) scLawSome.nd rfl (Or.inl rfl))) (fun _ _ _ _ _ => pts_nil) (fun _ _ _ _ _ => (pe_bm PySem.F.plainAttrs_list PySem.F.slot_list_pop PySem.F.type_list_pop mt_popAt (pv 3) (pa_cons (pe_cal C__law_take hr (by rfl) (pa_cons (pv 0) (pa_cons (pe_callB (cl_len) (by rfl) Tx.len (by decide +kernel) (pa_cons (pv 3) pa_nil)) pa_nil))) pa_nil))))))), ?_⟩
    repeat infer_instance
    refine s_list B ha fun l H B => ?_
    repeat infer_instance
    refine s_itR (by omega) (by omega) ?_
    rw [Int.toNat_natCast]
    refine s_lcR (fun i acc M => ∃ out rest : List V, acc = out ∧ out.length = i ∧ (out ++ rest).Perm ns ∧ M = .ob l (.lst rest) :: .pr D (CanO (n + i)) :: L) B.arr ⟨[], ns, rfl, rfl, List.Perm.refl _, rfl⟩ (fun _ => rfl) ?_ ?_
    · rintro Dc i acc M H hi ⟨out, rest, rfl, ho, pm, rfl⟩ B
      have hr : acc.length + rest.length = ns.length := by rw [← pm.length_eq, List.length_append]
      repeat infer_instance
      refine iteT ?_
      repeat infer_instance
      refine u_take B (by omega) (by omega) (by omega) fun v H B hv => ?_
      have hv2 : v < rest.length := by omega
      repeat infer_instance
      refine s_popAt (n := v) B (by omega) (y := rest[v]) (List.getElem?_eq_getElem hv2) fun H B => ?_
      have ep := eraseV (List.getElem?_eq_getElem hv2)
      refine s_el B ?_ ⟨acc ++ [rest[v]], rest.eraseIdx v, rfl, ?_, ?_, rfl⟩
      · unfold sizeLine; omega
      · rw [List.length_append, ho]; rfl
      · rw [List.append_assoc]; exact (List.Perm.append_left acc ep).trans pm
    rintro Dc acc M H ⟨out, rest, rfl, ho, pm, rfl⟩ B
    exact q _ acc rest H ho pm B.arr
end
end My
namespace My
open PySem PySem.Spec PyProof.Rows L2 LamX
local macro_rules | `(tactic| infer_instance) => `(tactic| first
  | with_reducible refine s_var (by with_unfolding_all exact rfl) ?_
  | with_reducible apply s_C
  | with_reducible apply s_op
  | with_reducible apply s_i0
  | with_reducible apply s_seq
  | with_reducible apply s_asg
  | with_reducible apply s_gn
  | with_reducible apply s_nil
  | with_reducible apply s_cons
  | with_reducible apply s_cb
  | with_reducible apply s_call
  | with_reducible apply s_un
  | with_reducible apply s_u
  | with_reducible apply s_test
  | with_reducible apply s_blV
  | with_reducible apply s_eqI
  | with_reducible apply s_neI
  | with_reducible apply s_ifs
  | with_reducible apply s_drop
  | with_reducible apply s_ret
  | with_reducible apply s_lst
  | with_reducible apply s_tup
  | with_reducible apply s_and
  | with_reducible apply s_or
  | with_reducible apply s_not
  | with_reducible apply s_tB
  | with_reducible apply s_bm
  | with_reducible apply s_bm0
  | with_reducible apply s_for
  | with_reducible apply s_iList
  | with_reducible apply s_iTup
  | with_reducible apply s_mndS
  | with_reducible apply s_srtS
  | with_reducible apply s_lc2S
  | with_reducible apply s_remS
  | with_reducible apply s_iRng
  | with_reducible apply s_iEnum
  | with_reducible apply s_iRng3
  | with_reducible apply s_iZip
  | with_reducible apply s_iZip3
  | with_reducible apply s_iRev
  | with_reducible apply s_get2S
  | with_reducible apply s_iEZ
  | with_reducible apply s_sl
  | with_reducible apply s_noPart
  | with_reducible apply s_part
  | with_reducible apply s_partI
  | with_reducible apply s_neS
  | with_reducible apply s_eqS
  | with_reducible apply s_lc
  | with_reducible apply s_dc
  | with_reducible apply s_dg
  | with_reducible apply s_di
  | with_reducible apply s_dni
  | with_reducible apply s_yes
  | with_reducible apply s_chain
  | with_reducible refine s_aug (by with_unfolding_all exact rfl) ?_
  | with_reducible apply s_ip
  | with_reducible apply s_revL
  | with_reducible apply s_gsub
  | with_reducible apply s_gslc
  | with_reducible apply s_parS
  | with_reducible apply s_par
  | with_reducible apply s_gc
  | with_reducible apply s_gnil
  | with_reducible apply s_brk
  | with_reducible apply s_cnt
  | with_reducible apply s_next
  | with_reducible apply s_andV
  | with_reducible apply s_orV
  | with_reducible apply s_notV
  | with_reducible apply s_isB
  | with_reducible apply s_notB
  | with_reducible apply s_max2
  | with_reducible apply s_min2
  | with_reducible apply s_abs
  | with_reducible apply s_intB
  | (with_reducible refine s_len (by assumption) ?_)
  | (with_reducible refine s_lenF (by assumption) ?_)
  | (with_reducible refine s_ty (by assumption) ?_)
  | (with_reducible refine s_tyF (by assumption) ?_)
  | (with_reducible refine s_i (by first | decide | exact cpow_ok (by decide) (by decide) (by decide) | exact cdivw (by decide) (by decide) | exact cmul_l (by decide) (by decide) | exact cmul_r (by decide) (by decide) | omega | exact cmul_l (by omega) (by omega) | exact cmul_r (by omega) (by omega)) ?_))

abbrev nLawNumbers : List Str := ["pot", "many", "base", "gap", "found", "at", "way", "mixed", "size", "parts", "part", "turn"]
theorem scLawNumbers : FnScope nLawNumbers ["pot", "many"] (defScope sLawNumbers) := ⟨rfl, rfl, rfl, by decide +kernel, rfl, by decide +kernel, by decide +kernel⟩

/-- the range of all numbers -/
def Wd (ns : List Int) : Prop := ∀ x ∈ ns, -(10 ^ 30) < x ∧ x < 10 ^ 30
theorem Wd.perm {xs ys : List Int} (h : Wd xs) (p : ys.Perm xs) : Wd ys := fun x hx => h x (p.mem_iff.mp hx)
theorem Wd.sh {ns : List Int} (h : Wd ns) : Sh ns := fun x hx => by
  obtain ⟨h1, h2⟩ := h x hx
  omega
theorem lin_nd {b g : Int} (hg : 0 < g) (m : Nat) : ((List.range m).map fun i : Nat => b + g * (i : Int)).Nodup :=
  List.Pairwise.map _ (fun x y (h : x ≠ y) e => h (by
    have e2 : g * (x : Int) = g * (y : Int) := by omega
    have e3 : (x : Int) = (y : Int) := Int.eq_of_mul_eq_mul_left (by omega) e2
    omega)) List.nodup_range
section
variable {P : Program} {w : World} {K : PySem.W.Frag} {mg : Str → Option Value} {base : Heap}
def spLawNumbers : Sp := fun vs H Q _ => ∃ (H0 : Hp) (T : List (Addr × Str)) (L : List Cell) (D : Addr) (m n : Nat), vs = [.ref D, .int (m : Int)] ∧ Own H0 H T (.pr D (CanO n) :: L) ∧ n ≤ 800000 ∧ m ≤ 200 ∧
  ∀ p (ns : List Int) H', ns.Nodup → ns.length = m → Wd ns → Own H0 H' T (.ob p (.lst (ns.map V.int)) :: .pr D (CanO (n + 1000)) :: L) → Q (.ref p) H'
set_option maxHeartbeats 0 in
theorem ok_LawNumbers {f : Addr} {fd : FuncData} {k : Nat} (F : Fun K "_law_numbers" "_law_numbers" sLawNumbers f fd) (Tx : Txt mg) (C__law_take : Cal P w K mg base k "_law_take" ["pot", "many"] spLawTake) (C__law_some : Cal P w K mg base k "_law_some" ["pot", "things", "many"] spLawSome) : FnOk P w K mg base CX0 (k + 1) f fd ["pot", "many"] spLawNumbers := by
  refine F.ok scLawNumbers (fun vs H Q E h => ?_) (fun cdv A outer s H vs Q E hr h => ?_)
  · obtain ⟨_, _, _, D, m, n, rfl, _⟩ := h
    rfl
  · obtain ⟨H0, T, L, D, m, n, rfl, B, hn, hm, q⟩ := h
    refine ⟨_, (pss_cons (ps_set (i := 2) scLawNumbers.nd rfl (.inr rfl) (pe_ix ix_list (pe_lst (pa_cons pe_int (pa_cons (pe_op op_sub pe_int (pe_op op_fdivW (pv 1) pe_int)) (pa_cons (pe_op op_pow pe_int pe_int) (pa_cons (pe_op op_sub pe_int (pe_op op_pow pe_int pe_int)) pa_nil))))) (pe_cal C__law_take hr (by rfl) (pa_cons (pv 0) (pa_cons pe_int pa_nil))) (fun _ _ => rfl)))
 (pss_cons (ps_set (i := 3) scLawNumbers.nd rfl (.inr rfl) (pe_ix ix_list (pe_lst (pa_cons pe_int (pa_cons pe_int (pa_cons (pe_op op_pow pe_int pe_int) pa_nil)))) (pe_cal C__law_take hr (by rfl) (pa_cons (pv 0) (pa_cons pe_int pa_nil))) (fun _ _ => rfl)))
 (pss_cons (ps_setLc (i := 4) (te := (tOp (rI0 fun i j => .int (i + j)) (tVar 2) (tOp (rI CMul fun i j => .int (i * j)) (tVar 3) (tVar 5)))) (tt := tYes) (own := [("at", 5)]) (g := (gName 5)) (by rfl) scLawNumbers.nd rfl rfl (sw_true rfl rfl rfl (by decide +kernel)) (pi_range1 (by rfl) Tx.range (pa_cons (pv 1) pa_nil)) (blkOk_by (own := [("at", 5)]) (N := nLawNumbers) (sc := defScope sLawNumbers) (by decide +kernel)) (fun _ _ _ _ _ => (pg_name (i := 5) scLawNumbers.nd rfl (Or.inl rfl))) (fun _ _ _ _ _ => pts_nil) (fun _ _ _ _ _ => (pe_op op_add (pv 2) (pe_op op_mul (pv 3) (pv 5)))))
 (pss_cons (ps_set (i := 6) scLawNumbers.nd rfl (.inl rfl) (pe_cal C__law_take hr (by rfl) (pa_cons (pv 0) (pa_cons pe_int pa_nil))))
 (pss_cons (ps_if (pt_cmpR op_eq (pv 6) pe_int (by rfl))
  (pss_one (ps_ret (pv 4))) pss_nil)
 (pss_cons (ps_if (pt_cmpR op_eq (pv 6) pe_int (by rfl))
  (pss_one (ps_ret (pe_revL (pv 4)))) pss_nil)
 (pss_cons (ps_set (i := 7) scLawNumbers.nd rfl (.inr rfl) (pe_cal C__law_some hr (by rfl) (pa_cons (pv 0) (pa_cons (pv 4) (pa_cons (pv 1) pa_nil)))))
 (pss_cons (ps_if (pt_cmpR op_eq (pv 6) pe_int (by rfl))
  (pss_cons (ps_set (i := 8) scLawNumbers.nd rfl (.inr rfl) (pe_op op_add pe_int (pe_cal C__law_take hr (by rfl) (pa_cons (pv 0) (pa_cons pe_int pa_nil)))))
 (pss_cons (ps_setLc (i := 9) (te := (tSl (rSlL K) (tVar 7) (tPart (tVar 5)) (tPart (tOp (rI0 fun i j => .int (i + j)) (tVar 5) (tVar 8))))) (tt := tYes) (own := [("at", 5)]) (g := (gName 5)) (by rfl) scLawNumbers.nd rfl rfl (sw_true rfl rfl rfl (by decide +kernel)) (pi_range3 (by rfl) Tx.range (pa_cons pe_int (pa_cons (pv 1) (pa_cons (pv 8) pa_nil)))) (blkOk_by (own := [("at", 5)]) (N := nLawNumbers) (sc := defScope sLawNumbers) (by decide +kernel)) (fun _ _ _ _ _ => (pg_name (i := 5) scLawNumbers.nd rfl (Or.inl rfl))) (fun _ _ _ _ _ => pts_nil) (fun _ _ _ _ _ => (pe_slice sl_list (pv 7) (po_some (pv 5)) (po_some (pe_op op_add (pv 5) (pv 8))))))
 (pss_cons (ps_set (i := 7) scLawNumbers.nd rfl (.inr rfl) (pe_lst pa_nil))
 (pss_one (ps_for PassesOwn.never rfl (pi_list (pv 9)) (pg_name (i := 10) scLawNumbers.nd rfl (Or.inl rfl))
  (pss_one (ps_set (i := 7) scLawNumbers.nd rfl (.inr rfl) (pe_op op_cat (pv 7) (pe_revL (pe_callB (cr_sortA) (by rfl) Tx.sorted (by decide +kernel) (pa_cons (pv 10) pa_nil))))))))))) pss_nil)
 (pss_cons (ps_if (pt_cmpR op_eq (pv 6) pe_int (by rfl))
  (pss_cons (ps_set (i := 7) scLawNumbers.nd rfl (.inr rfl) (pe_callB (cr_sortA) (by rfl) Tx.sorted (by decide +kernel) (pa_cons (pv 4) pa_nil)))
 (pss_one (ps_for PassesOwn.never rfl (pi_range1 (by rfl) Tx.range (pa_cons (pe_op op_fdivW (pv 1) pe_int) pa_nil)) (pg_name (i := 11) scLawNumbers.nd rfl (Or.inl rfl))
  (pss_cons (ps_set (i := 5) scLawNumbers.nd rfl (.inl rfl) (pe_cal C__law_take hr (by rfl) (pa_cons (pv 0) (pa_cons (pv 1) pa_nil))))
 (pss_one (ps_asg (pe_revL (pe_slice sl_list (pv 7) (po_some (pv 5)) (po_some (pe_op op_add (pv 5) pe_int)))) (pg_slcA (pv 7) (po_some (pv 5)) (po_some (pe_op op_add (pv 5) pe_int))))))))) pss_nil)
 (pss_one (ps_ret (pv 7)))))))))))), ?_⟩
    repeat infer_instance
    refine s_newL B (show 4 ≤ sizeLine by decide) fun l0 H B => ?_
    repeat infer_instance
    refine u_take B (by omega) (by decide) (by decide) fun v0 H B hv0 => ?_
    obtain ⟨b, hb, hb1, hb2⟩ : ∃ b : Int, [V.int 0, V.int (0 - (m : Int) / 2), V.int (10 ^ (29 : Int).toNat), V.int (0 - 10 ^ (29 : Int).toNat)][v0]? = some (.int b) ∧ -(10 ^ 29) ≤ b ∧ b ≤ 10 ^ 29 := by
      have e : v0 = 0 ∨ v0 = 1 ∨ v0 = 2 ∨ v0 = 3 := by omega
      rcases e with rfl | rfl | rfl | rfl
      · exact ⟨0, rfl, by decide, by decide⟩
      · exact ⟨_, rfl, by omega, by omega⟩
      · exact ⟨_, rfl, by decide, by decide⟩
      · exact ⟨_, rfl, by decide, by decide⟩
    refine s_ixN B hb ?_
    repeat infer_instance
    refine s_newL B (show 3 ≤ sizeLine by decide) fun l1 H B => ?_
    repeat infer_instance
    refine u_take B (by omega) (by decide) (by decide) fun v1 H B hv1 => ?_
    obtain ⟨g, hg, hg1, hg2⟩ : ∃ g : Int, [V.int 1, V.int 7, V.int (10 ^ (20 : Int).toNat)][v1]? = some (.int g) ∧ 0 < g ∧ g ≤ 10 ^ 20 := by
      have e : v1 = 0 ∨ v1 = 1 ∨ v1 = 2 := by omega
      rcases e with rfl | rfl | rfl
      · exact ⟨1, rfl, by decide, by decide⟩
      · exact ⟨7, rfl, by decide, by decide⟩
      · exact ⟨_, rfl, by decide, by decide⟩
    refine s_ixN B hg ?_
    repeat infer_instance
    refine s_itR (by omega) (by omega) ?_
    rw [Int.toNat_natCast]
    have B : Own H0 H T (.pr D (CanO (n + 1 + 1)) :: L) := B.arr
    refine s_lcR (fun i acc M => acc = ((List.range i).map fun i : Nat => b + g * (i : Int)).map V.int ∧ M = .pr D (CanO (n + 1 + 1)) :: L) B ⟨rfl, rfl⟩ (fun _ => rfl) ?_ ?_
    · rintro Dc i acc M H hi ⟨rfl, rfl⟩ B
      repeat infer_instance
      refine iteT ?_
      repeat infer_instance
      refine s_el B ?_ ⟨?_, rfl⟩
      · rw [List.length_map, List.length_map, List.length_range]; unfold sizeLine; omega
      · rw [List.range_succ, List.map_append, List.map_append]; rfl
    rintro fo acc M H ⟨rfl, rfl⟩ B
    have nd := lin_nd (b := b) hg1 m
    have ln : ((List.range m).map fun i : Nat => b + g * (i : Int)).length = m := by rw [List.length_map, List.length_range]
    have wd : Wd ((List.range m).map fun i : Nat => b + g * (i : Int)) := by
      intro x hx
      obtain ⟨i, hi, rfl⟩ := List.mem_map.mp hx
      have hi2 : i < 200 := by have := List.mem_range.mp hi; omega
      have h1 : g * (i : Int) ≤ 10 ^ 20 * 200 := Int.mul_le_mul hg2 (by omega) (by omega) (by decide)
      have h2 : 0 ≤ g * (i : Int) := Int.mul_nonneg (by omega) (by omega)
      omega
    generalize (List.range m).map (fun i : Nat => b + g * (i : Int)) = fs at B nd ln wd
    have fin : ∀ p (ns : List Int) H (k : Nat), ns.Perm fs → k ≤ 1000 → Own H0 H T (.ob p (.lst (ns.map V.int)) :: .pr D (CanO (n + k)) :: L) → Q (.ref p) H := fun p ns H k pm hk B =>
      q p ns H (pm.nodup_iff.mpr nd) (by rw [pm.length_eq, ln]) (wd.perm pm) (B.up (by omega))
    repeat infer_instance
    refine u_take B (by omega) (by decide) (by decide) fun way H B hway => ?_
    repeat infer_instance
    refine iteD (fun e1 => ?_) (fun e1 => ?_)
    · repeat infer_instance
      exact fin fo fs H 3 (List.Perm.refl _) (by decide) B.arr
    repeat infer_instance
    refine iteD (fun e2 => ?_) (fun e2 => ?_)
    · repeat infer_instance
      refine s_rev B fun r H B => ?_
      rw [← List.map_reverse] at B
      exact fin r fs.reverse H 3 (List.reverse_perm _) (by decide) B.arr
    repeat infer_instance
    refine u_some B (B.get fo) (by omega) (by omega) (by omega) (by omega) fun p out rest H ho pm B => ?_
    have er : rest = [] := by
      have h1 := pm.length_eq
      rw [List.length_append] at h1
      exact List.eq_nil_of_length_eq_zero (by omega)
    subst er
    rw [List.append_nil] at pm
    rw [Int.toNat_natCast] at B
    have hpl : out.length = m := by omega
    iterate 2 infer_instance
    refine s_keyS (fun σ H' => ∃ (p2 : Addr) (ns2 : List Int) (y5 y8 y9 y10 : Option V), σ = [some (.ref D), some (.int (m : Int)), some (.int b), some (.int g), some (.ref fo), y5, some (.int (way : Int)), some (.ref p2), y8, y9, y10, none] ∧ ns2.Perm fs ∧ Own H0 H' T (.ob p2 (.lst (ns2.map V.int)) :: .ob fo (.lst (fs.map V.int)) :: .pr D (CanO (n + 3 + m + 1)) :: L)) (fun key => ?_) ?_
    · repeat infer_instance
      refine iteD (fun e3 => ?_) (fun e3 => ?_)
      · repeat infer_instance
        refine u_take B (by omega) (by decide) (by decide) fun v H B hv => ?_
        have es : (1 : Int) + (v : Int) = ((1 + v : Nat) : Int) := by omega
        repeat infer_instance
        rw [es]
        refine s_itR3 (rgC_pos (by omega) (by omega) (by omega)) ?_
        refine s_lcC (fun i acc M => ∃ qs : List Addr, qs.length = i ∧ acc = qs.map V.ref ∧ M = .rs qs (vv ((List.range i).map fun j => (out.drop (j * (1 + v))).take (1 + v))) :: .ob p (.lst (out.map V.int)) :: .ob fo (.lst (fs.map V.int)) :: .pr D (CanO (n + 3 + m + 1)) :: L)
          (Own.rs0 (B.upD D (show _ ≤ n + 3 + m + 1 by omega)).arr) ⟨[], rfl, rfl, rfl⟩ (fun _ => rfl) ?_ ?_
        · rintro Dc i acc M H hi ⟨qs, hq, rfl, rfl⟩ B
          have e0 : (0 : Int) + (i : Int) * ((1 + v : Nat) : Int) = ((i * (1 + v) : Nat) : Int) := by rw [Int.zero_add]; exact (Int.natCast_mul _ _).symm
          rw [e0]
          repeat infer_instance
          refine iteT ?_
          repeat infer_instance
          have e1 : ((i * (1 + v) : Nat) : Int) + ((1 + v : Nat) : Int) = ((i * (1 + v) + (1 + v) : Nat) : Int) := (Int.natCast_add _ _).symm
          rw [e1]
          refine s_slL B (B.get p) fun l H B => ?_
          rw [cut_mid (by omega), Nat.add_sub_cancel_left, ← List.map_drop, ← List.map_take] at B
          have B2 : Own H0 H T (.rs (qs ++ [l]) (vv ((List.range i).map fun j => (out.drop (j * (1 + v))).take (1 + v)) ++ [((out.drop (i * (1 + v))).take (1 + v)).map V.int]) :: .ob Dc (.lst (qs.map V.ref)) :: .ob p (.lst (out.map V.int)) :: .ob fo (.lst (fs.map V.int)) :: .pr D (CanO (n + 3 + m + 1)) :: L) := Own.pushR B.arr
          have e2 : vv ((List.range i).map fun j => (out.drop (j * (1 + v))).take (1 + v)) ++ [((out.drop (i * (1 + v))).take (1 + v)).map V.int] = vv ((List.range (i + 1)).map fun j => (out.drop (j * (1 + v))).take (1 + v)) := by
            rw [List.range_succ, List.map_append, vv_app]; rfl
          rw [e2] at B2
          refine s_el B2 ?_ ⟨qs ++ [l], by rw [List.length_append, hq]; rfl, by rw [List.map_append]; rfl, rfl⟩
          rw [List.length_map, hq]
          have := rg_lt (len := m) (by omega) hi
          have h9 : i ≤ i * (1 + v) := Nat.le_mul_of_pos_right _ (by omega)
          unfold sizeLine; omega
        rintro pp acc M H ⟨qs, hq, rfl, rfl⟩ B
        have B := B.closeR
        have hall := chunks_all (s := 1 + v) (m := m) (by omega) out hpl
        generalize (List.range ((m + (1 + v) - 1) / (1 + v))).map (fun j => (out.drop (j * (1 + v))).take (1 + v)) = cs at B hall
        have hqc := B.lenF pp
        repeat infer_instance
        refine s_newL B (Nat.zero_le _) fun mx H B => ?_
        repeat infer_instance
        refine s_itH (B.getF pp) ?_
        refine s_forL (fun i σ M => ∃ (mx : Addr) (ms : List Int) (y10 : Option V), σ = [some (.ref D), some (.int (m : Int)), some (.int b), some (.int g), some (.ref fo), none, some (.int (way : Int)), some (.ref mx), some (.int ((1 + v : Nat) : Int)), some (.ref pp), y10, none] ∧ ms.Perm (cs.take i).flatten ∧
          M = .ob mx (.lst (ms.map V.int)) :: .fm pp qs (vv cs) :: .ob fo (.lst (fs.map V.int)) :: .pr D (CanO (n + 3 + m + 1)) :: L) (qs.map V.ref) (show Own H0 H T (.ob mx (.lst (([] : List Int).map V.int)) :: .fm pp qs (vv cs) :: .ob p (.lst (out.map V.int)) :: .ob fo (.lst (fs.map V.int)) :: .pr D (CanO (n + 3 + m + 1)) :: L) from B).arr ⟨mx, [], none, rfl, by simp, rfl⟩ ?_ ?_ ?_
        · rintro i σ M H ⟨mx, ms, y10, _, _, rfl⟩ B
          exact SqL.of (B.getF pp)
        · rintro i x σ M H hx ⟨mx, ms, y10, rfl, pms, rfl⟩ B
          rw [List.getElem?_map] at hx
          obtain ⟨qq, hqq, rfl⟩ := Option.map_eq_some_iff.mp hx
          obtain ⟨f1, ef, hf⟩ := B.rowOf pp hqq
          have hfs : (cs.take (i + 1)).flatten = (cs.take i).flatten ++ f1 := by rw [List.take_add_one, ef, List.flatten_append]; simp
          have htot := flat_tk (fam := cs) (i + 1)
          rw [hfs, hall, hpl, List.length_append] at htot
          repeat infer_instance
          refine s_sortH B hf fun so l H pe _ B => ?_
          refine s_rev B fun r H B => ?_
          rw [← List.map_reverse] at B
          refine s_cat B (B.get mx) (B.get r) ?_ fun l2 H B => ?_
          · rw [List.length_map, List.length_map, List.length_reverse, pe.length_eq, pms.length_eq]; unfold sizeLine; omega
          rw [← List.map_append] at B
          repeat infer_instance
          refine s_inn B ⟨l2, ms ++ so.reverse, _, rfl, ?_, rfl⟩
          rw [hfs]
          exact pms.append ((List.reverse_perm so).trans pe)
        · rintro σ M H ⟨mx, ms, y10, rfl, pms, rfl⟩ B
          have hcl : (qs.map V.ref).length = cs.length := by rw [List.length_map, hqc]
          rw [hcl, List.take_length, hall] at pms
          exact key _ _ ⟨mx, ms, _, _, _, _, rfl, pms.trans pm, B.arr⟩
      · exact key _ _ ⟨p, out, _, _, _, _, rfl, pm, (B.upD D (show _ ≤ n + 3 + m + 1 by omega)).arr⟩
    clear B
    rintro σ H ⟨p2, ns2, y5, y8, y9, y10, rfl, pm2, B⟩
    repeat infer_instance
    refine iteD (fun e4 => ?_) (fun e4 => ?_)
    · repeat infer_instance
      refine s_sort B fun so l H pe _ B => ?_
      repeat infer_instance
      refine s_itR (by omega) (by omega) ?_
      have et : ((m : Int) / 3).toNat = m / 3 := by omega
      rw [et]
      refine s_forR (fun i σ M => ∃ (ms : List Int) (y5 y11 : Option V), σ = [some (.ref D), some (.int (m : Int)), some (.int b), some (.int g), some (.ref fo), y5, some (.int (way : Int)), some (.ref l), y8, y9, y10, y11] ∧ ms.Perm fs ∧ M = .ob l (.lst (ms.map V.int)) :: .pr D (CanO (n + 3 + m + 1 + i)) :: L) B.arr ⟨so, y5, none, rfl, pe, rfl⟩ ?_ ?_
      · rintro i σ M H hi ⟨ms, y5, y11, rfl, pms, rfl⟩ B
        have hml : ms.length = m := by rw [pms.length_eq, ln]
        repeat infer_instance
        refine u_take B (by omega) (by omega) (by omega) fun t H B ht => ?_
        have e2 : (t : Int) + 2 = ((t + 2 : Nat) : Int) := by omega
        repeat infer_instance
        rw [e2]
        refine s_slL B (B.get l) fun s1 H B => ?_
        rw [cut_mid (by omega), Nat.add_sub_cancel_left, ← List.map_drop, ← List.map_take] at B
        refine s_rev B fun r H B => ?_
        rw [← List.map_reverse] at B
        repeat infer_instance
        rw [e2]
        refine s_slc B (B.get r) (B.ne2 l).symm (by omega) (by rw [List.length_map]; omega) ?_ fun H B => ?_
        · rw [List.length_map, List.length_map, List.length_reverse, List.length_take]; unfold sizeLine; omega
        rw [← List.map_take, ← List.map_drop, ← List.map_append, ← List.map_append] at B
        rw [show ms.take t ++ ((ms.drop t).take 2).reverse ++ ms.drop (t + 2) = swp ms t from rfl] at B
        exact s_inn B ⟨swp ms t, _, _, rfl, (swp_perm ms t).trans pms, rfl⟩
      · rintro σ M H ⟨ms, y5, y11, rfl, pms, rfl⟩ B
        repeat infer_instance
        exact fin l ms H (3 + m + 1 + m / 3) pms (by omega) (B.upD D (show _ ≤ n + (3 + m + 1 + m / 3) by omega)).arr
    · repeat infer_instance
      exact fin p2 ns2 H (3 + m + 1) pm2 (by omega) (B.upD D (show _ ≤ n + (3 + m + 1) by omega)).arr
end
end My
namespace My
open PySem PySem.Spec PyProof.Rows L2 LamX
section
variable {H : Hp} {σ : L2.St} {D : Ends} {x y z : V} {t : TA}
def Par3At (i j l : Nat) (D : Ends) (σ : L2.St) (vs : List V) (H : Hp) : Prop := ∃ u v w, vs = [u, v, w] ∧ D.nx (((σ.set i (some u)).set j (some v)).set l (some w)) H
theorem s_par3S {i j l : Nat} (k : t σ H fun vs H1 => Par3At i j l D σ vs H1) : tPar3 i j l t D σ H := k
theorem s_par3 {i j l : Nat} (k : D.nx (((σ.set i (some x)).set j (some y)).set l (some z)) H) : Par3At i j l D σ [x, y, z] H := ⟨x, y, z, rfl, k⟩
end
end My
namespace My
open PySem PySem.Spec PyProof.Rows L2 LamX
/-- the queue of a number -/
def wh (fam : List (List Int)) (x : Int) : Nat := fam.findIdx fun q => decide (x ∈ q)
theorem wh_of {fam : List (List Int)} (nd : fam.flatten.Nodup) {j : Nat} {q : List Int} {x : Int} (h : fam[j]? = some q) (hx : x ∈ q) : wh fam x = j := by
  obtain ⟨hj, e⟩ := List.getElem?_eq_some_iff.mp h
  have h1 : wh fam x ≤ j := Nat.le_of_not_lt fun z => by
    have := List.not_of_lt_findIdx (p := fun q => decide (x ∈ q)) z
    simp only [e, decide_eq_false_iff_not] at this
    exact this hx
  rcases Nat.lt_or_ge (wh fam x) j with z | z
  · have w : fam.findIdx (fun q => decide (x ∈ q)) < fam.length := by
      have : wh fam x = fam.findIdx fun q => decide (x ∈ q) := rfl
      omega
    have h2 := of_decide_eq_true (List.findIdx_getElem (w := w))
    have p1 := (List.pairwise_flatten.mp nd).2
    have p2 := List.pairwise_iff_getElem.mp p1 _ j w hj z
    rw [e] at p2
    exact absurd rfl (p2 _ h2 _ hx)
  · omega
/-- whether a fact holds, the queues of the numbers given -/
def hldB (f : Fc) (wq : Int → Nat) : Bool := if f.1 = "in" then decide ((wq f.2.1 : Int) = f.2.2) else decide (decide (wq f.2.1 = wq f.2.2) = decide (f.1 = "same"))
theorem hld_lk {ns : List Int} {f : Fc} {as : List Nat} {wq : Int → Nat} (ok : okF ns f) (h : ∀ x ∈ ns, qOf as (ndF ns x) = (wq x == 1)) (lt : ∀ x ∈ ns, wq x < 2) : hldB f wq = ((qOf as (lkF ns f).1 ^^ qOf as (lkF ns f).2.1) == (lkF ns f).2.2) := by
  obtain ⟨h1, h2⟩ := ok
  unfold hldB lkF
  have l1 := lt _ h1
  rcases h2 with ⟨e, h3⟩ | ⟨e, h3, h4⟩
  · rw [if_pos e, if_pos e]
    show _ = ((qOf as (ndF ns f.2.1) ^^ false) == (f.2.2 == 1))
    rw [h _ h1, Bool.xor_false]
    have : wq f.2.1 = 0 ∨ wq f.2.1 = 1 := by omega
    rcases this with z | z <;> rw [z] <;> rcases h3 with y | y <;> rw [y] <;> decide
  · have ne : ¬ f.1 = "in" := by rcases e with e | e <;> rw [e] <;> decide +kernel
    rw [if_neg ne, if_neg ne]
    show _ = ((qOf as (ndF ns f.2.1) ^^ qOf as (ndF ns f.2.2)) == decide (f.1 = "apart"))
    rw [h _ h1, h _ h3]
    have l2 := lt _ h3
    have a1 : wq f.2.1 = 0 ∨ wq f.2.1 = 1 := by omega
    have a2 : wq f.2.2 = 0 ∨ wq f.2.2 = 1 := by omega
    rcases e with e | e <;> rw [e] <;> rcases a1 with z | z <;> rw [z] <;> rcases a2 with y | y <;> rw [y] <;> decide +kernel
abbrev fc (k : Str) (x y : Int) : Fc := (k, x, y)
theorem mapR (ts : List Addr) (t : Addr) : ts.map V.ref ++ [V.ref t] = (ts ++ [t]).map V.ref := by rw [List.map_append]; rfl
theorem isE {α : Type} {xs : List α} (h : xs ≠ []) : xs.isEmpty = false := by cases xs with | nil => exact absurd rfl h | cons x xs => rfl
/-- the queue of a number in the family with this assignment -/
def qN (ns : List Int) (as : List Nat) (x : Int) : Nat := as.getD (ndF ns x - 1) 0
/-- the queue of a number, by the assignment -/
theorem qN_q {ns : List Int} {as : List Nat} (lt : ∀ a ∈ as, a < 2) (hl : as.length = (cut ns).length) : (∀ x ∈ ns, qOf as (ndF ns x) = (qN ns as x == 1)) ∧ ∀ x ∈ ns, qN ns as x < 2 := by
  have key : ∀ x ∈ ns, ∃ i, ndF ns x = i + 1 ∧ i < as.length := fun x hx => by
    have := nd_le hx
    have e0 : ndF ns x = (cut ns).findIdx (fun b => decide (x ∈ b)) + 1 := rfl
    exact ⟨_, e0, by omega⟩
  refine ⟨fun x hx => ?_, fun x hx => ?_⟩
  · obtain ⟨i, e, hi⟩ := key x hx
    unfold qN
    rw [e, Nat.add_sub_cancel]
    rfl
  · obtain ⟨i, e, hi⟩ := key x hx
    unfold qN
    rw [e, Nat.add_sub_cancel, getD_at _ hi]
    exact lt _ (List.getElem_mem _)
theorem hld_sat {ns : List Int} {f : Fc} {as : List Nat} (lt : ∀ a ∈ as, a < 2) (hl : as.length = (cut ns).length) (ok : okF ns f) : hldB f (qN ns as) = true ↔ (qOf as (lkF ns f).1 ^^ qOf as (lkF ns f).2.1) = (lkF ns f).2.2 := by
  obtain ⟨h1, h2⟩ := qN_q (ns := ns) lt hl
  rw [hld_lk ok h1 h2, beq_iff_eq]
theorem rows_snoc {H : Hp} {ts : List Addr} {fs : List Fc} {t : Addr} {f : Fc} (hl : ts.length = fs.length) (h : ∀ (i : Nat) (t : Addr) (f : Fc), ts[i]? = some t → fs[i]? = some f → H t = some (fcO f)) (ht : H t = some (fcO f)) : ∀ (i : Nat) (t' : Addr) (f' : Fc), (ts ++ [t])[i]? = some t' → (fs ++ [f])[i]? = some f' → H t' = some (fcO f') := fun i t' f' h1 h2 => by
  rcases Nat.lt_or_ge i ts.length with z | z
  · rw [List.getElem?_append_left z] at h1
    rw [List.getElem?_append_left (by rw [← hl]; exact z)] at h2
    exact h i t' f' h1 h2
  · rw [List.getElem?_append_right z] at h1
    rw [List.getElem?_append_right (by rw [← hl]; exact z), ← hl] at h2
    cases hk : i - ts.length with
    | zero => rw [hk] at h1 h2; cases h1; cases h2; exact ht
    | succ k => rw [hk] at h1; simp at h1
theorem nd_at {ns : List Int} (nd : ns.Nodup) {i : Nat} {b : List Int} {x : Int} (h : (cut ns)[i]? = some b) (hx : x ∈ b) : ndF ns x = i + 1 := by
  have := wh_of (fam := cut ns) (by rw [(good_cut ns).flat]; exact nd) h hx
  show wh (cut ns) x + 1 = i + 1
  rw [this]
theorem s_eqFA {K : PySem.W.Frag} {H : Hp} {p p2 : Addr} {qs qs2 : List Addr} {fam fam2 : List (List Int)} {Q : VK} (F : FamAt H p qs fam) (G : FamAt H p2 qs2 fam2) (k : Q (.bl (decide (fam = fam2))) H) : rEqD K (.ref p) (.ref p2) H Q :=
  ⟨dR fam, dR fam2, dpR F.top F.rows, dpR G.top G.rows, shapedR _, shapedR _, by rw [eqv_RR]; exact k⟩
end My
namespace My
open PySem PySem.Spec PyProof.Rows L2 LamX
section
variable {H0 H H' : Hp} {T : List (Addr × Str)} {L L' : List Cell}
/-- a list of lists put behind a list of lists -/
theorem s_extendFF {lo e : Addr} {ql qe : List Addr} {r1 r2 : List (List V)} {Q : VK} (B : Own H0 H T (.fm e qe r2 :: .fm lo ql r1 :: L)) (h : ql.length + qe.length ≤ sizeLine)
    (k : ∀ H', Own H0 H' T (.fm lo (ql ++ qe) (r1 ++ r2) :: L) → Q .non H') : rExtend (.ref lo) [.ref e] H Q := by
  have B1 : Own H0 H T (.fm lo ql r1 :: .ob e (.lst (qe.map V.ref)) :: .rs qe r2 :: L) := (B.openR).arr
  have B2 := B1.openR
  refine s_extend (xs := ql.map V.ref) (ys := qe.map V.ref) B2 (B2.get e) (by rw [List.length_map, List.length_map]; exact h) fun H B => ?_
  have B3 : Own H0 H T (.rs ql r1 :: .rs qe r2 :: .ob lo (.lst (ql.map V.ref ++ qe.map V.ref)) :: L) := B.arr
  have B4 := B3.appR
  have B5 : Own H0 H T (.ob lo (.lst ((ql ++ qe).map V.ref)) :: .rs (ql ++ qe) (r1 ++ r2) :: L) := by rw [List.map_append]; exact B4.arr
  exact k H B5.closeR
end
end My
namespace My
open PySem PySem.Spec PyProof.Rows L2 LamX
def SrtAt (K : PySem.W.Frag) (x : V) (H1 : Hp) (Q : VK) : Prop := ∃ (l : Addr) (ns : List Int), x = .ref l ∧ SqL K H1 l (ns.map V.int) ∧ ns.length ≤ 4000 ∧ ∀ (js : List Int) (p : Addr), js.Pairwise (· < ·) → (∀ y, y ∈ js ↔ y ∈ ns) → H1 p = none → Q (.ref p) (upd H1 p (.lst (js.map V.int)))
section
variable {K : PySem.W.Frag} {H0 H : Hp} {T : List (Addr × Str)} {L L1 : List Cell} {a : Addr} {ns : List Int} {sg : L2.St} {ta : TE} {Q : VK}
theorem s_srtS (k : ta sg H fun x H1 => SrtAt K x H1 Q) : tSrtSet K ta sg H Q := k
theorem s_srtSet (B : Own H0 H T L) (h : H a = some (.lst (ns.map V.int))) (hl : ns.length ≤ 4000) (k : ∀ (js : List Int) (p : Addr) H', js.Pairwise (· < ·) → (∀ y, y ∈ js ↔ y ∈ ns) → Own H0 H' T (.ob p (.lst (js.map V.int)) :: L) → Q (.ref p) H') : SrtAt K (.ref a) H Q :=
  ⟨a, ns, rfl, SqL.of h, hl, fun js p h1 h2 n => k js p _ h1 h2 (B.new n trivial)⟩
theorem srt_self {js ns : List Int} (h1 : js.Pairwise (· < ·)) (h2 : ns.Pairwise (· < ·)) (h : ∀ y, y ∈ js ↔ y ∈ ns) : js = ns := by
  have p : js.Perm ns := (List.perm_ext_iff_of_nodup (h1.imp fun z => by omega) (h2.imp fun z => by omega)).mpr h
  exact p.eq_of_pairwise (le := fun a b : Int => a ≤ b) (fun a b _ _ x y => Int.le_antisymm x y) (h1.imp fun z => Int.le_of_lt z) (h2.imp fun z => Int.le_of_lt z)
end
end My
namespace My
open PySem PySem.Spec PyProof.Rows L2 LamX
local macro_rules | `(tactic| infer_instance) => `(tactic| first
  | with_reducible refine s_var (by with_unfolding_all exact rfl) ?_
  | with_reducible apply s_C
  | with_reducible apply s_op
  | with_reducible apply s_i0
  | with_reducible apply s_seq
  | with_reducible apply s_asg
  | with_reducible apply s_gn
  | with_reducible apply s_nil
  | with_reducible apply s_cons
  | with_reducible apply s_cb
  | with_reducible apply s_call
  | with_reducible apply s_un
  | with_reducible apply s_u
  | with_reducible apply s_test
  | with_reducible apply s_blV
  | with_reducible apply s_eqI
  | with_reducible apply s_neI
  | with_reducible apply s_ifs
  | with_reducible apply s_drop
  | with_reducible apply s_ret
  | with_reducible apply s_lst
  | with_reducible apply s_tup
  | with_reducible apply s_and
  | with_reducible apply s_or
  | with_reducible apply s_not
  | with_reducible apply s_tB
  | with_reducible apply s_bm
  | with_reducible apply s_bm0
  | with_reducible apply s_for
  | with_reducible apply s_iList
  | with_reducible apply s_iTup
  | with_reducible apply s_mndS
  | with_reducible apply s_srtS
  | with_reducible apply s_lc2S
  | with_reducible apply s_remS
  | with_reducible apply s_iRng
  | with_reducible apply s_iEnum
  | with_reducible apply s_iRng3
  | with_reducible apply s_iZip
  | with_reducible apply s_iZip3
  | with_reducible apply s_iRev
  | with_reducible apply s_get2S
  | with_reducible apply s_iEZ
  | with_reducible apply s_sl
  | with_reducible apply s_noPart
  | with_reducible apply s_part
  | with_reducible apply s_partI
  | with_reducible apply s_neS
  | with_reducible apply s_eqS
  | with_reducible apply s_lc
  | with_reducible apply s_dc
  | with_reducible apply s_dg
  | with_reducible apply s_di
  | with_reducible apply s_dni
  | with_reducible apply s_yes
  | with_reducible apply s_chain
  | with_reducible refine s_aug (by with_unfolding_all exact rfl) ?_
  | with_reducible apply s_ip
  | with_reducible apply s_revL
  | with_reducible apply s_gsub
  | with_reducible apply s_gslc
  | with_reducible apply s_parS
  | with_reducible apply s_par
  | with_reducible apply s_gc
  | with_reducible apply s_gnil
  | with_reducible apply s_brk
  | with_reducible apply s_cnt
  | with_reducible apply s_next
  | with_reducible apply s_andV
  | with_reducible apply s_orV
  | with_reducible apply s_notV
  | with_reducible apply s_isB
  | with_reducible apply s_notB
  | with_reducible apply s_max2
  | with_reducible apply s_min2
  | with_reducible apply s_abs
  | with_reducible apply s_intB
  | (with_reducible refine s_len (by assumption) ?_)
  | (with_reducible refine s_lenF (by assumption) ?_)
  | (with_reducible refine s_ty (by assumption) ?_)
  | (with_reducible refine s_tyF (by assumption) ?_)
  | (with_reducible refine s_i (by first | decide | exact cpow_ok (by decide) (by decide) (by decide) | exact cdivw (by decide) (by decide) | exact cmul_l (by decide) (by decide) | exact cmul_r (by decide) (by decide) | omega | exact cmul_l (by omega) (by omega) | exact cmul_r (by omega) (by omega)) ?_))

abbrev nLawBlocks : List Str := ["numbers", "found", "at", "number", "one"]
theorem scLawBlocks : FnScope nLawBlocks ["numbers"] (defScope sLawBlocks) := ⟨rfl, rfl, rfl, by decide +kernel, rfl, by decide +kernel, by decide +kernel⟩

section
variable {K : PySem.W.Frag} {H0 H : Hp} {T : List (Addr × Str)} {L L' L1 : List Cell} {p l : Addr} {qs : List Addr} {fam : List (List Int)} {Q : VK}
theorem Own.last (B : Own H0 H T L) (p : Addr) [P1 : Pull L p (.fm p qs (vv fam)) L'] {ini : List (List Int)} {f : List Int} (e : fam = ini ++ [f]) : ∃ q, atI (qs.map V.ref) (-1) = some (.ref q) ∧ qs[ini.length]? = some q ∧ H q = some (.lst (f.map V.int)) := by
  have hl := B.lenF p
  rw [e, List.length_append] at hl
  have h1 : fam[ini.length]? = some f := by rw [e]; simp
  obtain ⟨q, hq, hr⟩ := B.qrow p h1
  refine ⟨q, ?_, hq, hr⟩
  rcases List.eq_nil_or_concat qs with z | ⟨qi, ql, z⟩
  · rw [z] at hl; simp at hl
  · rw [List.concat_eq_append] at z
    subst z
    have e2 : qi.length = ini.length := by simpa using hl
    have e3 : (qi ++ [ql])[ini.length]? = some ql := by rw [← e2]; simp
    rw [hq] at e3
    rw [Option.some.inj e3]
    exact atI_last1
end
section
variable {P : Program} {w : World} {K : PySem.W.Frag} {mg : Str → Option Value} {base : Heap}
def spLawBlocks : Sp := fun vs H Q _ => ∃ (H0 : Hp) (T : List (Addr × Str)) (L : List Cell) (a : Addr) (ns : List Int), vs = [.ref a] ∧ Own H0 H T L ∧ (∀ H', Own H0 H' T L → H' a = some (.lst (ns.map V.int))) ∧ ns.Nodup ∧ ns.length ≤ 1000 ∧
  ∀ p qs H', Own H0 H' T (.fm p qs (vv (cut ns)) :: L) → Q (.ref p) H'
theorem u_cblocks {H0 H : Hp} {T : List (Addr × Str)} {L : List Cell} {a : Addr} {ns : List Int} {Q : VK} {E : XK} (B : Own H0 H T L) (A : ∀ H', Own H0 H' T L → H' a = some (.lst (ns.map V.int))) (nd : ns.Nodup) (h : ns.length ≤ 1000)
    (k : ∀ p qs H', Own H0 H' T (.fm p qs (vv (cut ns)) :: L) → Q (.ref p) H') : spLawBlocks [.ref a] H Q E := ⟨_, _, _, _, _, rfl, B, A, nd, h, k⟩
set_option maxHeartbeats 0 in
theorem ok_LawBlocks {f : Addr} {fd : FuncData} {k : Nat} (F : Fun K "_law_blocks" "_law_blocks" sLawBlocks f fd) (Tx : Txt mg)  : FnOk P w K mg base CX0 (k + 1) f fd ["numbers"] spLawBlocks := by
  refine F.ok scLawBlocks (fun vs H Q E h => ?_) (fun cdv A outer s H vs Q E hr h => ?_)
  · obtain ⟨_, _, _, a, ns, rfl, _⟩ := h
    rfl
  · obtain ⟨H0, T, L, a, ns, rfl, B, hA, nd, hl, q⟩ := h
    refine ⟨_, (pss_cons (ps_set (i := 1) scLawBlocks.nd rfl (.inl rfl) (pe_lst pa_nil))
 (pss_cons (ps_for PassesOwn.never rfl (pi_enum (by rfl) Tx.enum (pa_cons (pv 0) pa_nil)) (pg_tup (by rfl) (pgs_cons (pg_name (i := 2) scLawBlocks.nd rfl (Or.inl rfl)) (pgs_cons (pg_name (i := 3) scLawBlocks.nd rfl (Or.inr rfl)) pgs_nil)))
  (pss_one (ps_if (pt_cmpR (op_eqD hr.units) (pe_lc (te := (tC (.int 1))) (tt := (tTest (tOp (rI0 fun i j => .bl (decide (j < i))) (tVar 4) (tVar 3)))) (own := [("one", 4)]) (g := (gName 4)) (by rfl) scLawBlocks.nd (pi_list (pe_slice sl_list (pv 0) po_none (po_some (pv 2)))) (blkOk_by (own := [("one", 4)]) (N := nLawBlocks) (sc := defScope sLawBlocks) (by decide +kernel)) (fun _ _ _ _ _ => (pg_name (i := 4) scLawBlocks.nd rfl (Or.inl rfl))) (fun _ _ _ _ _ => pts_one (pt_cmpR op_gt (pv 4) (pv 3) (by rfl))) (fun _ _ _ _ _ => pe_int)) (pe_lst pa_nil) (nomark _))
  (pss_one (ps_expr (pe_bm PySem.F.plainAttrs_list PySem.F.slot_list_append PySem.F.type_list_append mt_append (pv 1) (pa_cons (pe_lst (pa_cons (pv 3) pa_nil)) pa_nil)))) (pss_one (ps_expr (pe_bm PySem.F.plainAttrs_list PySem.F.slot_list_append PySem.F.type_list_append mt_append (pe_ix ix_list (pv 1) (pe_un un_neg pe_int) (fun _ _ => rfl)) (pa_cons (pv 3) pa_nil)))))))
 (pss_one (ps_ret (pv 1))))), ?_⟩
    repeat infer_instance
    refine s_newL B (Nat.zero_le _) fun p H B => ?_
    have B := B.toF0
    repeat infer_instance
    refine s_itE (hA _ B.tail) ?_
    refine s_forE (fun i σ M => ∃ (qs : List Addr) (y2 y3 : Option V), σ = [some (.ref a), some (.ref p), y2, y3, none] ∧ M = .fm p qs (vv (cut (ns.take i))) :: L) (ns.map V.int) B ⟨[], none, none, rfl, rfl⟩ ?_ ?_ ?_
    · rintro i σ M H ⟨qs, y2, y3, _, rfl⟩ B
      exact SqL.of (hA _ B.tail)
    · rintro i x σ M H hx ⟨qs, y2, y3, rfl, rfl⟩ B
      rw [List.getElem?_map] at hx
      obtain ⟨n, hn, rfl⟩ := Option.map_eq_some_iff.mp hx
      have hi : i < ns.length := (List.getElem?_eq_some_iff.mp hn).1
      have G := good_cut (ns.take i)
      have hcl : (cut (ns.take i)).length ≤ 1000 := by
        have := G.len
        rw [List.length_take] at this
        omega
      have hql := B.lenF p
      have ct := cut_take hn
      have ndt : (ns.take i ++ [n]).Nodup := by
        have e : ns.take (i + 1) = ns.take i ++ [n] := by rw [List.take_add_one, hn]; rfl
        rw [← e]
        exact nd.sublist (List.take_sublist ..)
      have ask := cut_ask ndt
      repeat infer_instance
      refine s_slL B (hA _ B.tail) fun s1 H B => ?_
      rw [cut_to i, ← List.map_take] at B
      repeat infer_instance
      refine s_itH (B.get s1) ?_
      refine s_lcL (fun j acc M => acc = (List.replicate (((ns.take i).take j).filter fun o => decide (n < o)).length (1 : Int)).map V.int ∧ M = [.ob s1 (.lst ((ns.take i).map V.int)), .fm p qs (vv (cut (ns.take i)))] ++ L) ((ns.take i).map V.int) B ⟨rfl, rfl⟩ ?_ (fun _ => rfl) ?_ ?_
      · rintro j acc M H ⟨_, rfl⟩ B
        exact SqL.of (Own.get (L := .ob s1 (.lst ((ns.take i).map V.int)) :: .fm p qs (vv (cut (ns.take i))) :: L) B s1)
      · rintro Dc j x acc M H hx ⟨rfl, rfl⟩ B
        rw [List.getElem?_map] at hx
        obtain ⟨y, hy, rfl⟩ := Option.map_eq_some_iff.mp hx
        have tk : (((ns.take i).take (j + 1)).filter fun o => decide (n < o)) = (((ns.take i).take j).filter fun o => decide (n < o)) ++ (if n < y then [y] else []) := by
          rw [List.take_add_one, hy, List.filter_append]
          congr 1
          by_cases h : n < y <;> simp [h]
        have B : Own H0 H T (.ob Dc (.lst ((List.replicate (((ns.take i).take j).filter fun o => decide (n < o)).length (1 : Int)).map V.int)) :: .ob s1 (.lst ((ns.take i).map V.int)) :: .fm p qs (vv (cut (ns.take i))) :: L) := B
        repeat infer_instance
        refine iteD (fun h => ?_) (fun h => ?_)
        · repeat infer_instance
          refine s_el (M := .ob s1 (.lst ((ns.take i).map V.int)) :: .fm p qs (vv (cut (ns.take i))) :: L) B ?_ ⟨?_, rfl⟩
          · rw [List.length_map, List.length_replicate]
            have h1 := List.length_filter_le (fun o => decide (n < o)) ((ns.take i).take j)
            rw [List.length_take, List.length_take] at h1
            unfold sizeLine; omega
          · rw [tk, if_pos h, List.length_append, List.length_singleton, List.replicate_succ', List.map_append]; rfl
        · refine NoEl.mk (M := .ob s1 (.lst ((ns.take i).map V.int)) :: .fm p qs (vv (cut (ns.take i))) :: L) B ⟨?_, rfl⟩
          rw [tk, if_neg h, List.append_nil]
      rintro Dc acc M H ⟨rfl, rfl⟩ B
      rw [List.length_map, List.take_length] at B
      have B : Own H0 H T (.ob Dc (.lst ((List.replicate ((ns.take i).filter fun o => decide (n < o)).length (1 : Int)).map V.int)) :: .ob s1 (.lst ((ns.take i).map V.int)) :: .fm p qs (vv (cut (ns.take i))) :: L) := B
      repeat infer_instance
      refine s_newL B (Nat.zero_le _) fun t H B => ?_
      refine s_eqIE B ?_
      repeat infer_instance
      have he : (List.replicate ((ns.take i).filter fun o => decide (n < o)).length (1 : Int)).isEmpty = decide (((ns.take i).filter fun o => decide (n < o)) = []) := by
        cases ((ns.take i).filter fun o => decide (n < o)) <;> simp
      rw [he]
      refine iteD (fun hb => ?_) (fun hb => ?_)
      · have hnew := ask.mp hb
        repeat infer_instance
        refine s_newL B (show 1 ≤ sizeLine by decide) fun l H B => ?_
        repeat infer_instance
        refine s_appendF B p l (by unfold sizeLine; omega) fun H B => ?_
        rw [show vv (cut (ns.take i)) ++ [[V.int n]] = vv (cut (ns.take (i + 1))) by rw [ct, put_new hnew, vv_app]; rfl] at B
        exact s_inn B ⟨qs ++ [l], _, _, rfl, rfl⟩
      · obtain ⟨ini, m, r, e, hput⟩ := put_old fun h => hb (ask.mpr h)
        obtain ⟨ql, hq1, hq2, hq3⟩ := B.last p e
        repeat infer_instance
        refine s_ixS (SqL.of (B.getF p)) hq1 ?_
        refine s_tyH hq3 ?_
        repeat infer_instance
        refine s_appendV (f := m :: r) B p hq2 (by rw [e]; simp) ?_ fun H B => ?_
        · have := G.rowlen (b := m :: r) (by rw [e]; simp)
          rw [List.length_take] at this
          unfold sizeLine; omega
        have e3 : (cut (ns.take i)).set ini.length ((m :: r) ++ [n]) = cut (ns.take (i + 1)) := by
          rw [ct, hput, e, List.set_append_right _ _ (Nat.le_refl _), Nat.sub_self]
          rfl
        rw [e3] at B
        exact s_inn B ⟨qs, _, _, rfl, rfl⟩
    · rintro σ M H ⟨qs, y2, y3, rfl, rfl⟩ B
      rw [List.length_map, List.take_length] at B
      repeat infer_instance
      exact q p qs H B
end
end My
namespace My
open PySem PySem.Spec PyProof.Rows L2 LamX
local macro_rules | `(tactic| infer_instance) => `(tactic| first
  | with_reducible refine s_var (by with_unfolding_all exact rfl) ?_
  | with_reducible apply s_C
  | with_reducible apply s_op
  | with_reducible apply s_i0
  | with_reducible apply s_seq
  | with_reducible apply s_asg
  | with_reducible apply s_gn
  | with_reducible apply s_nil
  | with_reducible apply s_cons
  | with_reducible apply s_cb
  | with_reducible apply s_call
  | with_reducible apply s_un
  | with_reducible apply s_u
  | with_reducible apply s_test
  | with_reducible apply s_blV
  | with_reducible apply s_eqI
  | with_reducible apply s_neI
  | with_reducible apply s_ifs
  | with_reducible apply s_drop
  | with_reducible apply s_ret
  | with_reducible apply s_lst
  | with_reducible apply s_tup
  | with_reducible apply s_and
  | with_reducible apply s_or
  | with_reducible apply s_not
  | with_reducible apply s_tB
  | with_reducible apply s_bm
  | with_reducible apply s_bm0
  | with_reducible apply s_for
  | with_reducible apply s_iList
  | with_reducible apply s_iTup
  | with_reducible apply s_mndS
  | with_reducible apply s_srtS
  | with_reducible apply s_lc2S
  | with_reducible apply s_remS
  | with_reducible apply s_iRng
  | with_reducible apply s_iEnum
  | with_reducible apply s_iRng3
  | with_reducible apply s_iZip
  | with_reducible apply s_iZip3
  | with_reducible apply s_iRev
  | with_reducible apply s_get2S
  | with_reducible apply s_iEZ
  | with_reducible apply s_sl
  | with_reducible apply s_noPart
  | with_reducible apply s_part
  | with_reducible apply s_partI
  | with_reducible apply s_neS
  | with_reducible apply s_eqS
  | with_reducible apply s_lc
  | with_reducible apply s_dc
  | with_reducible apply s_dg
  | with_reducible apply s_di
  | with_reducible apply s_dni
  | with_reducible apply s_yes
  | with_reducible apply s_chain
  | with_reducible refine s_aug (by with_unfolding_all exact rfl) ?_
  | with_reducible apply s_ip
  | with_reducible apply s_revL
  | with_reducible apply s_gsub
  | with_reducible apply s_gslc
  | with_reducible apply s_parS
  | with_reducible apply s_par
  | with_reducible apply s_gc
  | with_reducible apply s_gnil
  | with_reducible apply s_brk
  | with_reducible apply s_cnt
  | with_reducible apply s_next
  | with_reducible apply s_andV
  | with_reducible apply s_orV
  | with_reducible apply s_notV
  | with_reducible apply s_isB
  | with_reducible apply s_notB
  | with_reducible apply s_max2
  | with_reducible apply s_min2
  | with_reducible apply s_abs
  | with_reducible apply s_intB
  | (with_reducible refine s_len (by assumption) ?_)
  | (with_reducible refine s_lenF (by assumption) ?_)
  | (with_reducible refine s_ty (by assumption) ?_)
  | (with_reducible refine s_tyF (by assumption) ?_)
  | (with_reducible refine s_i (by first | decide | exact cpow_ok (by decide) (by decide) (by decide) | exact cdivw (by decide) (by decide) | exact cmul_l (by decide) (by decide) | exact cmul_r (by decide) (by decide) | omega | exact cmul_l (by omega) (by omega) | exact cmul_r (by omega) (by omega)) ?_))

abbrev nLawAllChosen : List Str := ["many", "found", "turn", "longer", "row"]
theorem scLawAllChosen : FnScope nLawAllChosen ["many"] (defScope sLawAllChosen) := ⟨rfl, rfl, rfl, by decide +kernel, rfl, by decide +kernel, by decide +kernel⟩

section
variable {P : Program} {w : World} {K : PySem.W.Frag} {mg : Str → Option Value} {base : Heap}
def lngr (r : List (List Nat)) : List (List Nat) := r.flatMap fun row => [row ++ [0], row ++ [1]]
theorem lngr_all (n : Nat) : lngr (allC 2 n) = allC 2 (n + 1) := rfl
theorem lngr_len (r : List (List Nat)) : (lngr r).length = 2 * r.length := by
  induction r with
  | nil => rfl
  | cons x r ih => show (_ :: _ :: lngr r).length = _; rw [List.length_cons, List.length_cons, ih, List.length_cons]; omega
def spLawAllChosen : Sp := fun vs H Q _ => ∃ (H0 : Hp) (T : List (Addr × Str)) (L : List Cell) (n : Nat), vs = [.int (n : Int)] ∧ Own H0 H T L ∧ n ≤ 7 ∧ ∀ p qs H', Own H0 H' T (.fm p qs (vv ((allC 2 n).map nI)) :: L) → Q (.ref p) H'
theorem u_allChosen {H0 H : Hp} {T : List (Addr × Str)} {L : List Cell} {n : Nat} {Q : VK} {E : XK} (B : Own H0 H T L) (h : n ≤ 7) (k : ∀ p qs H', Own H0 H' T (.fm p qs (vv ((allC 2 n).map nI)) :: L) → Q (.ref p) H') : spLawAllChosen [.int (n : Int)] H Q E := ⟨_, _, _, n, rfl, B, h, k⟩
set_option maxHeartbeats 0 in
theorem ok_LawAllChosen {f : Addr} {fd : FuncData} {k : Nat} (F : Fun K "_law_all_chosen" "_law_all_chosen" sLawAllChosen f fd) (Tx : Txt mg)  : FnOk P w K mg base CX0 (k + 1) f fd ["many"] spLawAllChosen := by
  refine F.ok scLawAllChosen (fun vs H Q E h => ?_) (fun cdv A outer s H vs Q E hr h => ?_)
  · obtain ⟨_, _, _, n, rfl, _⟩ := h
    rfl
  · obtain ⟨H0, T, L, n, rfl, B, hn, q⟩ := h
    refine ⟨_, (pss_cons (ps_set (i := 1) scLawAllChosen.nd rfl (.inl rfl) (pe_lst (pa_cons (pe_lst pa_nil) pa_nil)))
 (pss_cons (ps_for PassesOwn.never rfl (pi_range1 (by rfl) Tx.range (pa_cons (pv 0) pa_nil)) (pg_name (i := 2) scLawAllChosen.nd rfl (Or.inl rfl))
  (pss_cons (ps_set (i := 3) scLawAllChosen.nd rfl (.inl rfl) (pe_lst pa_nil))
 (pss_cons (ps_for PassesOwn.never rfl (pi_list (pv 1)) (pg_name (i := 4) scLawAllChosen.nd rfl (Or.inl rfl))
  (pss_one (ps_expr (pe_bm PySem.F.plainAttrs_list PySem.F.slot_list_extend PySem.F.type_list_extend mt_extend (pv 3) (pa_cons (pe_lst (pa_cons (pe_op op_cat (pv 4) (pe_lst (pa_cons pe_int pa_nil))) (pa_cons (pe_op op_cat (pv 4) (pe_lst (pa_cons pe_int pa_nil))) pa_nil))) pa_nil)))))
 (pss_one (ps_set (i := 1) scLawAllChosen.nd rfl (.inl rfl) (pv 3))))))
 (pss_one (ps_ret (pv 1))))), ?_⟩
    repeat infer_instance
    refine s_newL B (Nat.zero_le _) fun r H B => ?_
    repeat infer_instance
    refine s_newL B (show 1 ≤ sizeLine by decide) fun p H B => ?_
    have B : Own H0 H T (.fm p [r] (vv ((allC 2 0).map nI)) :: L) := B.one
    repeat infer_instance
    refine s_itR (by omega) (by omega) ?_
    rw [Int.toNat_natCast]
    refine s_forR (fun i σ M => ∃ (p : Addr) (qs : List Addr) (y2 y3 y4 : Option V), σ = [some (.int (n : Int)), some (.ref p), y2, y3, y4] ∧ M = .fm p qs (vv ((allC 2 i).map nI)) :: L) B ⟨p, [r], none, none, none, rfl, rfl⟩ ?_ ?_
    · rintro i σ M H hi ⟨p, qs, y2, y3, y4, rfl, rfl⟩ B
      have hli : (allC 2 i).length ≤ 64 := by
        rw [allC_len]
        exact Nat.pow_le_pow_right (by decide) (by omega : i ≤ 6)
      have hql := B.lenF p
      rw [List.length_map] at hql
      repeat infer_instance
      refine s_newL B (Nat.zero_le _) fun lo H B => ?_
      have B := B.toF0
      repeat infer_instance
      refine s_itH (B.getF p) ?_
      refine s_forL (fun j σ M => ∃ (ql : List Addr) (y4 : Option V), σ = [some (.int (n : Int)), some (.ref p), some (.int (i : Int)), some (.ref lo), y4] ∧ M = .fm lo ql (vv ((lngr ((allC 2 i).take j)).map nI)) :: .fm p qs (vv ((allC 2 i).map nI)) :: L) (qs.map V.ref) B ⟨[], _, rfl, rfl⟩ ?_ ?_ ?_
      · rintro j σ M H ⟨ql, y4, rfl, rfl⟩ B
        exact SqL.of (B.getF p)
      · rintro j x σ M H hx ⟨ql, y4, rfl, rfl⟩ B
        rw [List.getElem?_map] at hx
        obtain ⟨qj, hqj, rfl⟩ := Option.map_eq_some_iff.mp hx
        obtain ⟨fj, hfj, hrow⟩ := B.rowOf p hqj
        rw [List.getElem?_map] at hfj
        obtain ⟨row, hrw, rfl⟩ := Option.map_eq_some_iff.mp hfj
        have hlr : row.length = i := ((allC_mem 2 i row).mp (List.mem_of_getElem? hrw)).1
        have hll := B.lenF lo
        rw [List.length_map, lngr_len, List.length_take] at hll
        repeat infer_instance
        refine s_newL B (show 1 ≤ sizeLine by decide) fun z0 H B => ?_
        have hrow0 := B.tail.rowAt p hqj (vv_get (by rw [List.getElem?_map, hrw]; rfl : ((allC 2 i).map nI)[j]? = some (nI row)))
        have hz0 := B.get z0
        have hrow1 := B.rowAt p hqj (vv_get (by rw [List.getElem?_map, hrw]; rfl : ((allC 2 i).map nI)[j]? = some (nI row)))
        refine s_cat B hrow1 hz0 (by rw [List.length_map, List.length_map]; unfold sizeLine; show row.length + 1 ≤ _; omega) fun c0 H B => ?_
        repeat infer_instance
        refine s_newL B (show 1 ≤ sizeLine by decide) fun z1 H B => ?_
        have hrow2 := B.rowAt p hqj (vv_get (by rw [List.getElem?_map, hrw]; rfl : ((allC 2 i).map nI)[j]? = some (nI row)))
        refine s_cat B hrow2 (B.get z1) (by rw [List.length_map, List.length_map]; unfold sizeLine; show row.length + 1 ≤ _; omega) fun c1 H B => ?_
        repeat infer_instance
        refine s_newL B (show 2 ≤ sizeLine by decide) fun e H B => ?_
        have B : Own H0 H T (.ob e (.lst [.ref c0, .ref c1]) :: .ob c1 (.lst ((nI row).map V.int ++ [.int 1])) :: .ob c0 (.lst ((nI row).map V.int ++ [.int 0])) :: .fm lo ql (vv ((lngr ((allC 2 i).take j)).map nI)) :: .fm p qs (vv ((allC 2 i).map nI)) :: L) := B.arr
        have B := B.two
        repeat infer_instance
        have B : Own H0 H T (.fm e [c0, c1] [(nI row).map V.int ++ [.int 0], (nI row).map V.int ++ [.int 1]] :: .fm lo ql (vv ((lngr ((allC 2 i).take j)).map nI)) :: .fm p qs (vv ((allC 2 i).map nI)) :: L) := B.arr
        refine s_extendFF B (by rw [hll]; unfold sizeLine; show _ + 2 ≤ _; omega) fun H B => ?_
        repeat infer_instance
        have e9 : vv ((lngr ((allC 2 i).take j)).map nI) ++ [(nI row).map V.int ++ [.int 0], (nI row).map V.int ++ [.int 1]] = vv ((lngr ((allC 2 i).take (j + 1))).map nI) := by
          rw [List.take_add_one, hrw]
          unfold lngr
          rw [List.flatMap_append, List.map_append, vv_app]
          congr 1
          show _ = [((nI (row ++ [0])).map V.int), ((nI (row ++ [1])).map V.int)]
          unfold nI
          rw [List.map_append, List.map_append, List.map_append, List.map_append]
          rfl
        rw [e9] at B
        exact s_inn B ⟨ql ++ [c0, c1], _, rfl, rfl⟩
      · rintro σ M H ⟨ql, y4, rfl, rfl⟩ B
        rw [List.length_map, hql, List.take_length, lngr_all] at B
        repeat infer_instance
        exact s_inn B ⟨lo, ql, _, _, _, rfl, rfl⟩
    · rintro σ M H ⟨p, qs, y2, y3, y4, rfl, rfl⟩ B
      repeat infer_instance
      exact q p qs H B
end
end My
namespace My
open PySem PySem.Spec PyProof.Rows L2 LamX
local macro_rules | `(tactic| infer_instance) => `(tactic| first
  | with_reducible refine s_var (by with_unfolding_all exact rfl) ?_
  | with_reducible apply s_C
  | with_reducible apply s_op
  | with_reducible apply s_i0
  | with_reducible apply s_seq
  | with_reducible apply s_asg
  | with_reducible apply s_gn
  | with_reducible apply s_nil
  | with_reducible apply s_cons
  | with_reducible apply s_cb
  | with_reducible apply s_call
  | with_reducible apply s_un
  | with_reducible apply s_u
  | with_reducible apply s_test
  | with_reducible apply s_blV
  | with_reducible apply s_eqI
  | with_reducible apply s_neI
  | with_reducible apply s_ifs
  | with_reducible apply s_drop
  | with_reducible apply s_ret
  | with_reducible apply s_lst
  | with_reducible apply s_tup
  | with_reducible apply s_and
  | with_reducible apply s_or
  | with_reducible apply s_not
  | with_reducible apply s_tB
  | with_reducible apply s_bm
  | with_reducible apply s_bm0
  | with_reducible apply s_for
  | with_reducible apply s_iList
  | with_reducible apply s_iTup
  | with_reducible apply s_mndS
  | with_reducible apply s_srtS
  | with_reducible apply s_lc2S
  | with_reducible apply s_remS
  | with_reducible apply s_iRng
  | with_reducible apply s_iEnum
  | with_reducible apply s_iRng3
  | with_reducible apply s_iZip
  | with_reducible apply s_iZip3
  | with_reducible apply s_iRev
  | with_reducible apply s_get2S
  | with_reducible apply s_iEZ
  | with_reducible apply s_sl
  | with_reducible apply s_noPart
  | with_reducible apply s_part
  | with_reducible apply s_partI
  | with_reducible apply s_neS
  | with_reducible apply s_eqS
  | with_reducible apply s_lc
  | with_reducible apply s_dc
  | with_reducible apply s_dg
  | with_reducible apply s_di
  | with_reducible apply s_dni
  | with_reducible apply s_yes
  | with_reducible apply s_chain
  | with_reducible refine s_aug (by with_unfolding_all exact rfl) ?_
  | with_reducible apply s_ip
  | with_reducible apply s_revL
  | with_reducible apply s_gsub
  | with_reducible apply s_gslc
  | with_reducible apply s_parS
  | with_reducible apply s_par
  | with_reducible apply s_gc
  | with_reducible apply s_gnil
  | with_reducible apply s_brk
  | with_reducible apply s_cnt
  | with_reducible apply s_next
  | with_reducible apply s_andV
  | with_reducible apply s_orV
  | with_reducible apply s_notV
  | with_reducible apply s_isB
  | with_reducible apply s_notB
  | with_reducible apply s_max2
  | with_reducible apply s_min2
  | with_reducible apply s_abs
  | with_reducible apply s_intB
  | (with_reducible refine s_len (by assumption) ?_)
  | (with_reducible refine s_lenF (by assumption) ?_)
  | (with_reducible refine s_ty (by assumption) ?_)
  | (with_reducible refine s_tyF (by assumption) ?_)
  | (with_reducible refine s_i (by first | decide | exact cpow_ok (by decide) (by decide) (by decide) | exact cdivw (by decide) (by decide) | exact cmul_l (by decide) (by decide) | exact cmul_r (by decide) (by decide) | omega | exact cmul_l (by omega) (by omega) | exact cmul_r (by omega) (by omega)) ?_))

abbrev nLawHolds : List Str := ["queue_of", "facts", "kind", "one", "other"]
theorem scLawHolds : FnScope nLawHolds ["queue_of", "facts"] (defScope sLawHolds) := ⟨rfl, rfl, rfl, by decide +kernel, rfl, by decide +kernel, by decide +kernel⟩

section
variable {P : Program} {w : World} {K : PySem.W.Frag} {mg : Str → Option Value} {base : Heap}
def spLawHolds : Sp := fun vs H Q _ => ∃ (H0 : Hp) (T : List (Addr × Str)) (L : List Cell) (d b : Addr) (ns : List Int) (ts : List Addr) (fs : List Fc) (kvs : List (Key × V)) (wq : Int → Nat), vs = [.ref d, .ref b] ∧ Own H0 H T L ∧ (∀ H', Own H0 H' T L → H' d = some (.dK kvs)) ∧ NTab kvs ns wq ∧ (∀ H', Own H0 H' T L → FcsAt H' b ts fs) ∧ (∀ f ∈ fs, okF ns f) ∧ ∀ H', Own H0 H' T L → Q (.bl (fs.all fun f => hldB f wq)) H'
theorem u_lholds {H0 H : Hp} {T : List (Addr × Str)} {L : List Cell} {d b : Addr} {ns : List Int} {ts : List Addr} {fs : List Fc} {kvs : List (Key × V)} {wq : Int → Nat} {Q : VK} {E : XK} (B : Own H0 H T L) (D : ∀ H', Own H0 H' T L → H' d = some (.dK kvs)) (tb : NTab kvs ns wq) (F : ∀ H', Own H0 H' T L → FcsAt H' b ts fs) (ok : ∀ f ∈ fs, okF ns f) (k : ∀ H', Own H0 H' T L → Q (.bl (fs.all fun f => hldB f wq)) H') : spLawHolds [.ref d, .ref b] H Q E := ⟨_, _, _, _, _, _, _, _, _, _, rfl, B, D, tb, F, ok, k⟩
set_option maxHeartbeats 0 in
theorem ok_LawHolds {f : Addr} {fd : FuncData} {k : Nat} (F : Fun K "_law_holds" "_law_holds" sLawHolds f fd) (Tx : Txt mg)  : FnOk P w K mg base CX0 (k + 1) f fd ["queue_of", "facts"] spLawHolds := by
  refine F.ok scLawHolds (fun vs H Q E h => ?_) (fun cdv A outer s H vs Q E hr h => ?_)
  · obtain ⟨_, _, _, d, b, ns, ts, fs, kvs, wq, rfl, _⟩ := h
    rfl
  · obtain ⟨H0, T, L, d, b, ns, ts, fs, kvs, wq, rfl, B, D, tb, F, ok, q⟩ := h
    refine ⟨_, (pss_cons (ps_for PassesOwn.never rfl (pi_list (pv 1)) (pg_tup (by rfl) (pgs_cons (pg_name (i := 2) scLawHolds.nd rfl (Or.inl rfl)) (pgs_cons (pg_name (i := 3) scLawHolds.nd rfl (Or.inl rfl)) (pgs_cons (pg_name (i := 4) scLawHolds.nd rfl (Or.inl rfl)) pgs_nil))))
  (pss_cons (ps_if (PW.pt (pw_and (pt_cmpR op_eq (pv 2) pe_str (by rfl)) (pw_and1 (pt_cmpR op_ne (pe_dget (hu1_of hr) (pv 0) (pv 3) (fun _ _ => rfl)) (pv 4) (by rfl)))))
  (pss_one (ps_ret pe_bl)) pss_nil)
 (pss_cons (ps_if (PW.pt (pw_and (pt_cmpR op_eq (pv 2) pe_str (by rfl)) (pw_and1 (pt_cmpR op_ne (pe_dget (hu1_of hr) (pv 0) (pv 3) (fun _ _ => rfl)) (pe_dget (hu1_of hr) (pv 0) (pv 4) (fun _ _ => rfl)) (nomark _)))))
  (pss_one (ps_ret pe_bl)) pss_nil)
 (pss_one (ps_if (PW.pt (pw_and (pt_cmpR op_eq (pv 2) pe_str (by rfl)) (pw_and1 (pt_cmpR op_eq (pe_dget (hu1_of hr) (pv 0) (pv 3) (fun _ _ => rfl)) (pe_dget (hu1_of hr) (pv 0) (pv 4) (fun _ _ => rfl)) (nomark _)))))
  (pss_one (ps_ret pe_bl)) pss_nil)))))
 (pss_one (ps_ret pe_bl))), ?_⟩
    have hts := (F _ B).len
    repeat infer_instance
    refine s_itH (F _ B).top ?_
    refine s_forL (fun i σ M => ∃ y2 y3 y4 : Option V, σ = [some (.ref d), some (.ref b), y2, y3, y4] ∧ ((fs.take i).all fun f => hldB f wq) = true ∧ L = M) (ts.map V.ref) B ⟨none, none, none, rfl, rfl, rfl⟩ ?_ ?_ ?_
    · rintro i σ M H ⟨_, _, _, _, _, rfl⟩ B
      exact SqL.of (F _ B).top
    · rintro i x σ M H hx ⟨y2, y3, y4, rfl, hall, rfl⟩ B
      rw [List.getElem?_map] at hx
      obtain ⟨t, ht, rfl⟩ := Option.map_eq_some_iff.mp hx
      have hi := (List.getElem?_eq_some_iff.mp ht).1
      have ef : fs[i]? = some (fs[i]'(by omega)) := List.getElem?_eq_getElem _
      generalize fs[i]'(by omega) = f at ef
      have hm : f ∈ fs := List.mem_of_getElem? ef
      obtain ⟨h1, h2⟩ := ok f hm
      have nx : hldB f wq = true → ((fs.take (i + 1)).all fun f => hldB f wq) = true := fun z => by
        rw [List.take_add_one, ef, List.all_append, hall]
        simp [z]
      have no : hldB f wq = false → ∀ H', Own H0 H' T L → Q (.bl false) H' := fun z H' B' => by
        have e : (fs.all fun f => hldB f wq) = false := by
          rw [Bool.eq_false_iff]
          intro y
          have := List.all_eq_true.mp y f hm
          rw [z] at this
          cases this
        rw [← e]
        exact q H' B'
      have hd := D _ B
      have ht2 := (F _ B).row i t f ht ef
      have i9 : ∀ x y : Nat, decide ((x : Int) = (y : Int)) = decide (x = y) := fun x y => by rw [Bool.eq_iff_iff, decide_eq_true_iff, decide_eq_true_iff]; omega
      repeat infer_instance
      refine s_gtH ht2 rfl ?_
      repeat infer_instance
      rcases h2 with ⟨e, h3⟩ | ⟨e, h3, h4⟩
      · have n1 : ¬ f.1 = "same" := by rw [e]; decide +kernel
        have n2 : ¬ f.1 = "apart" := by rw [e]; decide +kernel
        have e1 : hldB f wq = decide ((wq f.2.1 : Int) = f.2.2) := by unfold hldB; rw [if_pos e]
        rw [e1] at nx no
        rw [decide_eq_true e]
        refine iteT ?_
        repeat infer_instance
        refine s_dget hd (tb _ h1) ?_
        repeat infer_instance
        by_cases z : (wq f.2.1 : Int) = f.2.2
        · rw [decide_eq_true z] at nx
          rw [decide_eq_true z]
          refine iteF ?_
          repeat infer_instance
          rw [decide_eq_false n1]
          refine iteF ?_
          refine iteF ?_
          repeat infer_instance
          rw [decide_eq_false n2]
          refine iteF ?_
          refine iteF ?_
          repeat infer_instance
          exact s_inn B ⟨_, _, _, rfl, nx rfl, rfl⟩
        · rw [decide_eq_false z] at no
          rw [decide_eq_false z]
          refine iteT ?_
          repeat infer_instance
          exact no rfl _ B
      · have ne : ¬ f.1 = "in" := by rcases e with e | e <;> rw [e] <;> decide +kernel
        have e1 : hldB f wq = decide (decide (wq f.2.1 = wq f.2.2) = decide (f.1 = "same")) := by unfold hldB; rw [if_neg ne]
        rw [e1] at nx no
        rw [decide_eq_false ne]
        refine iteF ?_
        refine iteF ?_
        repeat infer_instance
        rcases e with e | e
        · have n2 : ¬ f.1 = "apart" := by rw [e]; decide +kernel
          rw [decide_eq_true e] at nx no ⊢
          refine iteT ?_
          repeat infer_instance
          refine s_dget hd (tb _ h1) ?_
          repeat infer_instance
          refine s_dget hd (tb _ h3) ?_
          repeat infer_instance
          rw [i9]
          by_cases z : wq f.2.1 = wq f.2.2
          · rw [decide_eq_true z] at nx
            rw [decide_eq_true z]
            refine iteF ?_
            repeat infer_instance
            rw [decide_eq_false n2]
            refine iteF ?_
            refine iteF ?_
            repeat infer_instance
            exact s_inn B ⟨_, _, _, rfl, nx rfl, rfl⟩
          · rw [decide_eq_false z] at no
            rw [decide_eq_false z]
            refine iteT ?_
            repeat infer_instance
            exact no rfl _ B
        · have n1 : ¬ f.1 = "same" := by rw [e]; decide +kernel
          rw [decide_eq_false n1] at nx no ⊢
          refine iteF ?_
          refine iteF ?_
          repeat infer_instance
          rw [decide_eq_true e]
          refine iteT ?_
          repeat infer_instance
          refine s_dget hd (tb _ h1) ?_
          repeat infer_instance
          refine s_dget hd (tb _ h3) ?_
          repeat infer_instance
          rw [i9]
          by_cases z : wq f.2.1 = wq f.2.2
          · rw [decide_eq_true z] at no ⊢
            refine iteT ?_
            repeat infer_instance
            exact no rfl _ B
          · rw [decide_eq_false z] at nx ⊢
            refine iteF ?_
            repeat infer_instance
            exact s_inn B ⟨_, _, _, rfl, nx rfl, rfl⟩
    · rintro σ M H ⟨y2, y3, y4, rfl, hall, rfl⟩ B
      rw [List.length_map, hts, List.take_length] at hall
      repeat infer_instance
      rw [← hall]
      exact q H B
end
end My
namespace My
open PySem PySem.Spec PyProof.Rows L2 LamX
local macro_rules | `(tactic| infer_instance) => `(tactic| first
  | with_reducible refine s_var (by with_unfolding_all exact rfl) ?_
  | with_reducible apply s_C
  | with_reducible apply s_op
  | with_reducible apply s_i0
  | with_reducible apply s_seq
  | with_reducible apply s_asg
  | with_reducible apply s_gn
  | with_reducible apply s_nil
  | with_reducible apply s_cons
  | with_reducible apply s_cb
  | with_reducible apply s_call
  | with_reducible apply s_un
  | with_reducible apply s_u
  | with_reducible apply s_test
  | with_reducible apply s_blV
  | with_reducible apply s_eqI
  | with_reducible apply s_neI
  | with_reducible apply s_ifs
  | with_reducible apply s_drop
  | with_reducible apply s_ret
  | with_reducible apply s_lst
  | with_reducible apply s_tup
  | with_reducible apply s_and
  | with_reducible apply s_or
  | with_reducible apply s_not
  | with_reducible apply s_tB
  | with_reducible apply s_bm
  | with_reducible apply s_bm0
  | with_reducible apply s_for
  | with_reducible apply s_iList
  | with_reducible apply s_iTup
  | with_reducible apply s_mndS
  | with_reducible apply s_srtS
  | with_reducible apply s_lc2S
  | with_reducible apply s_remS
  | with_reducible apply s_iRng
  | with_reducible apply s_iEnum
  | with_reducible apply s_iRng3
  | with_reducible apply s_iZip
  | with_reducible apply s_iZip3
  | with_reducible apply s_iRev
  | with_reducible apply s_get2S
  | with_reducible apply s_iEZ
  | with_reducible apply s_sl
  | with_reducible apply s_noPart
  | with_reducible apply s_part
  | with_reducible apply s_partI
  | with_reducible apply s_neS
  | with_reducible apply s_eqS
  | with_reducible apply s_lc
  | with_reducible apply s_dc
  | with_reducible apply s_dg
  | with_reducible apply s_di
  | with_reducible apply s_dni
  | with_reducible apply s_yes
  | with_reducible apply s_chain
  | with_reducible refine s_aug (by with_unfolding_all exact rfl) ?_
  | with_reducible apply s_ip
  | with_reducible apply s_revL
  | with_reducible apply s_gsub
  | with_reducible apply s_gslc
  | with_reducible apply s_parS
  | with_reducible apply s_par
  | with_reducible apply s_gc
  | with_reducible apply s_gnil
  | with_reducible apply s_brk
  | with_reducible apply s_cnt
  | with_reducible apply s_next
  | with_reducible apply s_andV
  | with_reducible apply s_orV
  | with_reducible apply s_notV
  | with_reducible apply s_isB
  | with_reducible apply s_notB
  | with_reducible apply s_max2
  | with_reducible apply s_min2
  | with_reducible apply s_abs
  | with_reducible apply s_intB
  | (with_reducible refine s_len (by assumption) ?_)
  | (with_reducible refine s_lenF (by assumption) ?_)
  | (with_reducible refine s_ty (by assumption) ?_)
  | (with_reducible refine s_tyF (by assumption) ?_)
  | (with_reducible refine s_i (by first | decide | exact cpow_ok (by decide) (by decide) (by decide) | exact cdivw (by decide) (by decide) | exact cmul_l (by decide) (by decide) | exact cmul_r (by decide) (by decide) | omega | exact cmul_l (by omega) (by omega) | exact cmul_r (by omega) (by omega)) ?_))

abbrev nLawFitting : List Str := ["result", "facts", "rows", "found", "chosen", "queue_of", "block", "queue", "number"]
theorem scLawFitting : FnScope nLawFitting ["result", "facts"] (defScope sLawFitting) := ⟨rfl, rfl, rfl, by decide +kernel, rfl, by decide +kernel, by decide +kernel⟩

theorem fam_refs0 {H : Hp} {zs : List (Addr × List Int)} {x : Addr} (ht : H x = some (.lst (zs.map fun z => V.ref z.1))) (nd : (zs.map (·.1)).Nodup) (h : ∀ z ∈ zs, H z.1 = some (.lst (z.2.map V.int))) : FamAt H x (zs.map (·.1)) (zs.map (·.2)) := by
  refine ⟨by rw [List.map_map]; exact ht, by rw [vv, List.length_map, List.length_map, List.length_map], nd, fun j q b e1 e2 => ?_⟩
  rw [vv, List.map_map] at e2
  rw [List.getElem?_map] at e1 e2
  obtain ⟨z, hz, rfl⟩ := Option.map_eq_some_iff.mp e1
  rw [hz] at e2
  cases e2
  exact h z (List.mem_of_getElem? hz)
theorem Own.offN : ∀ {N : List Cell} {H0 H : Hp} {T : List (Addr × Str)} {L : List Cell}, Own H0 H T (N ++ L) → Own H0 H T L
  | [], _, _, _, _, B => B
  | _ :: N, _, _, _, _, B => Own.offN (N := N) B.tail
section
variable {P : Program} {w : World} {K : PySem.W.Frag} {mg : Str → Option Value} {base : Heap}
def spLawFitting : Sp := fun vs H Q _ => ∃ (H0 : Hp) (T : List (Addr × Str)) (L : List Cell) (a b : Addr) (ns : List Int) (ts : List Addr) (fs : List Fc), vs = [.ref a, .ref b] ∧ Own H0 H T L ∧ FactsAt H0 T L a ns b ts fs ∧ (cut ns).length ≤ 7 ∧
  ∀ (N : List Cell) p rs H', Own H0 H' T (N ++ L) → (∀ H'', Own H0 H'' T (N ++ L) → FamAt H'' p rs ((dueF ns fs).map nI)) → Q (.ref p) H'
theorem u_fitting {H0 H : Hp} {T : List (Addr × Str)} {L : List Cell} {a b : Addr} {ns : List Int} {ts : List Addr} {fs : List Fc} {Q : VK} {E : XK} (B : Own H0 H T L) (F : FactsAt H0 T L a ns b ts fs) (h7 : (cut ns).length ≤ 7)
  (k : ∀ (N : List Cell) p rs H', Own H0 H' T (N ++ L) → (∀ H'', Own H0 H'' T (N ++ L) → FamAt H'' p rs ((dueF ns fs).map nI)) → Q (.ref p) H') : spLawFitting [.ref a, .ref b] H Q E := ⟨_, _, _, _, _, _, _, _, rfl, B, F, h7, k⟩
set_option maxHeartbeats 0 in
theorem ok_LawFitting {f : Addr} {fd : FuncData} {k : Nat} (F : Fun K "_law_fitting" "_law_fitting" sLawFitting f fd) (Tx : Txt mg) (C__law_blocks : Cal P w K mg base k "_law_blocks" ["numbers"] spLawBlocks) (C__law_all_chosen : Cal P w K mg base k "_law_all_chosen" ["many"] spLawAllChosen) (C__law_holds : Cal P w K mg base k "_law_holds" ["queue_of", "facts"] spLawHolds) : FnOk P w K mg base CX0 (k + 1) f fd ["result", "facts"] spLawFitting := by
  refine F.ok scLawFitting (fun vs H Q E h => ?_) (fun cdv A outer s H vs Q E hr h => ?_)
  · obtain ⟨_, _, _, a, b, ns, ts, fs, rfl, _⟩ := h
    rfl
  · obtain ⟨H0, T, L, a, b, ns, ts, fs, rfl, B, F, h7, q⟩ := h
    refine ⟨_, (pss_cons (ps_par (i := 2) (j := 3) (by rfl) scLawFitting.nd rfl rfl (by decide) rfl rfl (pa_cons (pe_cal C__law_blocks hr (by rfl) (pa_cons (pv 0) pa_nil)) (pa_cons (pe_lst pa_nil) pa_nil)) (by rfl))
 (pss_cons (ps_for PassesOwn.never rfl (pi_list (pe_cal C__law_all_chosen hr (by rfl) (pa_cons (pe_callB (cl_len) (by rfl) Tx.len (by decide +kernel) (pa_cons (pv 2) pa_nil)) pa_nil))) (pg_name (i := 4) scLawFitting.nd rfl (Or.inl rfl))
  (pss_cons (ps_set (i := 5) scLawFitting.nd rfl (.inl rfl) pe_dnewK)
 (pss_cons (ps_for PassesOwn.never rfl (RZ.pi_zipA (by rfl) Tx.zip (pa_cons (pv 2) (pa_cons (pv 4) pa_nil))) (pg_tup (by rfl) (pgs_cons (pg_name (i := 6) scLawFitting.nd rfl (Or.inl rfl)) (pgs_cons (pg_name (i := 7) scLawFitting.nd rfl (Or.inl rfl)) pgs_nil)))
  (pss_one (ps_for PassesOwn.never rfl (pi_list (pv 6)) (pg_name (i := 8) scLawFitting.nd rfl (Or.inl rfl))
  (pss_one (ps_asg (pv 7) (pg_sub (pv 5) (pv 8) (set_dict (hu1_of hr))))))))
 (pss_one (ps_if (pt_val (pe_cal C__law_holds hr (by rfl) (pa_cons (pv 5) (pa_cons (pv 1) pa_nil))))
  (pss_one (ps_expr (pe_bm PySem.F.plainAttrs_list PySem.F.slot_list_append PySem.F.type_list_append mt_append (pv 3) (pa_cons (pv 4) pa_nil)))) pss_nil)))))
 (pss_one (ps_ret (pv 3))))), ?_⟩
    have hnl := F.nl
    have fl := (good_cut ns).flat
    repeat infer_instance
    refine u_cblocks B F.nu F.nd hnl fun pr qr H B => ?_
    have hqr := B.lenF pr
    repeat infer_instance
    refine s_newL B (Nat.zero_le _) fun pf H B => ?_
    repeat infer_instance
    rw [hqr]
    refine u_allChosen B h7 fun pc qc H B => ?_
    have hqc := B.lenF pc
    rw [List.length_map] at hqc
    have hcl : (allC 2 (cut ns).length).length ≤ 128 := by
      rw [allC_len]
      exact Nat.pow_le_pow_right (by decide) h7
    have hcm := allC_mem 2 (cut ns).length
    have hdue : dueF ns fs = (allC 2 (cut ns).length).filter (satB (fs.map (lkF ns))) := rfl
    generalize allC 2 (cut ns).length = C at *
    repeat infer_instance
    refine s_itH (B.getF pc) ?_
    refine s_forL (fun i σ M => ∃ (zs : List (Addr × List Nat)) (y4 y5 y6 y7 y8 : Option V), σ = [some (.ref a), some (.ref b), some (.ref pr), some (.ref pf), y4, y5, y6, y7, y8] ∧ zs = ((qc.zip C).take i).filter (fun z => satB (fs.map (lkF ns)) z.2) ∧ M = .ob pf (.lst (zs.map fun z => V.ref z.1)) :: .fm pc qc (vv (C.map nI)) :: .fm pr qr (vv (cut ns)) :: L) (qc.map V.ref) (show Own H0 H T (.ob pf (.lst []) :: .fm pc qc (vv (C.map nI)) :: .fm pr qr (vv (cut ns)) :: L) from B.arr) ⟨[], none, none, none, none, none, rfl, rfl, rfl⟩ ?_ ?_ ?_
    · rintro i σ M H ⟨_, _, _, _, _, _, _, _, rfl⟩ B
      exact SqL.of (B.getF pc)
    · rintro i x σ M H hx ⟨zs, y4, y5, y6, y7, y8, rfl, hz, rfl⟩ B
      rw [List.getElem?_map] at hx
      obtain ⟨qi, hqi, rfl⟩ := Option.map_eq_some_iff.mp hx
      have hi : i < C.length := by rw [← hqc]; exact (List.getElem?_eq_some_iff.mp hqi).1
      have ea : C[i]? = some C[i] := List.getElem?_eq_getElem hi
      generalize C[i] = as at ea
      obtain ⟨hal, hab⟩ := (hcm as).mp (List.mem_of_getElem? ea)
      have zl : zs.length ≤ i := by
        rw [hz]
        refine Nat.le_trans (List.length_filter_le ..) ?_
        rw [List.length_take]
        exact Nat.min_le_left ..
      have ez : (qc.zip C)[i]? = some (qi, as) := by rw [List.getElem?_zip_eq_some]; exact ⟨hqi, ea⟩
      have hrw : ∀ {H' L'}, Own H0 H' T (L' ++ (.fm pc qc (vv (C.map nI)) :: .fm pr qr (vv (cut ns)) :: L)) → H' qi = some (.lst ((nI as).map V.int)) := fun B' => (Own.offN B').rowAt pc hqi (vv_get (by rw [List.getElem?_map, ea]; rfl))
      repeat infer_instance
      refine s_dnew B fun pd H B => ?_
      repeat infer_instance
      refine s_itZ (SqL.of (B.getF pr)) (SqL.of (hrw (L' := [_, _]) B)) ?_
      refine s_forZ (fun k σ M => ∃ (kvs : List (Key × V)) (y6 y7 y8 : Option V), σ = [some (.ref a), some (.ref b), some (.ref pr), some (.ref pf), some (.ref qi), some (.ref pd), y6, y7, y8] ∧ kvs.length ≤ ((cut ns).take k).flatten.length ∧ (∀ x ∈ ((cut ns).take k).flatten, valV kvs (.inl x) = some (.int (qN ns as x))) ∧ M = .ob pd (.dK kvs) :: .ob pf (.lst (zs.map fun z => V.ref z.1)) :: .fm pc qc (vv (C.map nI)) :: .fm pr qr (vv (cut ns)) :: L) (qr.map V.ref) ((nI as).map V.int) (by rw [List.length_map, List.length_map, List.length_map, hal, hqr]) B ⟨[], _, _, _, rfl, Nat.zero_le _, (fun x h => nomatch h), rfl⟩ ?_ ?_ ?_
      · rintro k σ M H ⟨_, _, _, _, _, _, _, rfl⟩ B
        exact ⟨SqL.of (B.getF pr), SqL.of (hrw (L' := [_, _]) B)⟩
      · rintro k x y σ M H hx hy ⟨kvs, y6, y7, y8, rfl, hk, hv, rfl⟩ B
        rw [List.getElem?_map] at hx
        obtain ⟨qk, hqk, rfl⟩ := Option.map_eq_some_iff.mp hx
        have hkl : k < (cut ns).length := by rw [← hqr]; exact (List.getElem?_eq_some_iff.mp hqk).1
        have ef : (cut ns)[k]? = some (cut ns)[k] := List.getElem?_eq_getElem hkl
        generalize (cut ns)[k] = f at ef
        have ey : y = .int (as.getD k 0 : Nat) := by
          rw [List.getElem?_map, List.getElem?_map] at hy
          have e1 : as[k]? = some (as.getD k 0) := by rw [getD_at _ (by omega)]; exact List.getElem?_eq_getElem _
          rw [e1] at hy
          exact (Option.some.inj hy).symm
        subst ey
        have tk : ((cut ns).take (k + 1)).flatten = ((cut ns).take k).flatten ++ f := by rw [List.take_add_one, ef, List.flatten_append]; simp
        have tl : ((cut ns).take (k + 1)).flatten.length ≤ ns.length := by
          have h2 : ns.length = ((cut ns).take (k + 1)).flatten.length + ((cut ns).drop (k + 1)).flatten.length := by
            rw [← List.length_append, ← List.flatten_append, List.take_append_drop, fl]
          omega
        have tl2 : ((cut ns).take k).flatten.length + f.length ≤ ns.length := by rw [tk, List.length_append] at tl; exact tl
        have hqv : ∀ x ∈ f, qN ns as x = as.getD k 0 := fun x hx => by
          unfold qN
          rw [nd_at F.nd ef hx, Nat.add_sub_cancel]
        repeat infer_instance
        refine s_itH (B.rowAt pr hqk (vv_get ef)) ?_
        refine s_forL (fun m σ M => ∃ (kvs : List (Key × V)) (y8 : Option V), σ = [some (.ref a), some (.ref b), some (.ref pr), some (.ref pf), some (.ref qi), some (.ref pd), some (.ref qk), some (.int (as.getD k 0 : Nat)), y8] ∧ kvs.length ≤ ((cut ns).take k).flatten.length + m ∧ (∀ x ∈ ((cut ns).take k).flatten ++ f.take m, valV kvs (.inl x) = some (.int (qN ns as x))) ∧ M = .ob pd (.dK kvs) :: .ob pf (.lst (zs.map fun z => V.ref z.1)) :: .fm pc qc (vv (C.map nI)) :: .fm pr qr (vv (cut ns)) :: L) (f.map V.int) B ⟨kvs, y8, rfl, hk, (by rw [List.take_zero, List.append_nil]; exact hv), rfl⟩ ?_ ?_ ?_
        · rintro m σ M H ⟨_, _, _, _, _, rfl⟩ B
          exact SqL.of (B.rowAt pr hqk (vv_get ef))
        · rintro m x σ M H hx ⟨kvs, y8, rfl, hk, hv, rfl⟩ B
          rw [List.getElem?_map] at hx
          obtain ⟨z, hz2, rfl⟩ := Option.map_eq_some_iff.mp hx
          have hmf : m < f.length := (List.getElem?_eq_some_iff.mp hz2).1
          repeat infer_instance
          refine s_setD B (by unfold sizeLine; omega) fun H B => ?_
          refine s_inn B ⟨putK kvs (.inl z) (.int (as.getD k 0 : Nat)), some (.int z), rfl, ?_, fun x hx => ?_, rfl⟩
          · have := length_putK kvs (.inl z) (.int (as.getD k 0 : Nat))
            omega
          · rw [valP]
            by_cases e : x = z
            · rw [if_pos e, e, hqv z (List.mem_of_getElem? hz2)]
            · rw [if_neg e]
              rw [List.take_add_one, hz2, ← List.append_assoc] at hx
              rcases List.mem_append.mp hx with h | h
              · exact hv x h
              · exact absurd (List.mem_singleton.mp h) e
        · rintro σ M H ⟨kvs, y8, rfl, hk, hv, rfl⟩ B
          rw [List.length_map] at hk hv
          rw [List.take_length, ← tk] at hv
          repeat infer_instance
          exact s_inn B ⟨kvs, _, _, _, rfl, (by rw [tk, List.length_append]; exact hk), hv, rfl⟩
      · rintro σ M H ⟨kvs, y6, y7, y8, rfl, hk, hv, rfl⟩ B
        rw [List.length_map, hqr, List.take_length, fl] at hv
        have fit : (fs.all fun f => hldB f (qN ns as)) = satB (fs.map (lkF ns)) as := by
          unfold satB
          rw [List.all_map, Bool.eq_iff_iff, List.all_eq_true, List.all_eq_true]
          refine ⟨fun h f hf => ?_, fun h f hf => ?_⟩
          · exact beq_iff_eq.mpr ((hld_sat hab hal (F.ok f hf)).mp (h f hf))
          · exact (hld_sat hab hal (F.ok f hf)).mpr (beq_iff_eq.mp (h f hf))
        repeat infer_instance
        refine u_lholds B (fun H' B' => B'.get pd) hv (fun H' B' => F.fc H' (Own.offN (N := [_, _, _, _]) B')) F.ok fun H B => ?_
        rw [fit]
        repeat infer_instance
        have tz : ((qc.zip C).take (i + 1)).filter (fun z => satB (fs.map (lkF ns)) z.2) = zs ++ (if satB (fs.map (lkF ns)) as = true then [(qi, as)] else []) := by
          rw [List.take_add_one, ez, List.filter_append, ← hz]
          congr 1
          by_cases h : satB (fs.map (lkF ns)) as = true <;> simp [h]
        refine iteB _ (fun h => ?_) (fun h => ?_)
        · rw [if_pos h] at tz
          repeat infer_instance
          refine s_append B (by rw [List.length_map]; unfold sizeLine; omega) fun H B => ?_
          repeat infer_instance
          have em : zs.map (fun z => V.ref z.1) ++ [V.ref qi] = (zs ++ [(qi, as)]).map fun z => V.ref z.1 := by rw [List.map_append]; rfl
          rw [em] at B
          exact s_inn B ⟨zs ++ [(qi, as)], _, _, _, _, _, rfl, tz.symm, rfl⟩
        · rw [if_neg (by rw [h]; exact Bool.false_ne_true), List.append_nil] at tz
          repeat infer_instance
          exact s_inn B ⟨zs, _, _, _, _, _, rfl, tz.symm, rfl⟩
    · rintro σ M H ⟨zs, y4, y5, y6, y7, y8, rfl, hz, rfl⟩ B
      rw [List.length_map, hqc, List.take_of_length_le (by rw [List.length_zip]; omega)] at hz
      have hzm : ∀ z ∈ zs, z ∈ qc.zip C := fun z h => by rw [hz] at h; exact (List.mem_filter.mp h).1
      have hz2 : zs.map (·.2) = dueF ns fs := by
        rw [hdue, hz]
        have : (qc.zip C).map (·.2) = C := List.map_snd_zip (by omega)
        conv => rhs; rw [← this]
        rw [List.filter_map]
        rfl
      repeat infer_instance
      refine q [_, _, _] pf ((zs.map fun z => (z.1, nI z.2)).map (·.1)) H B fun H' B' => ?_
      have B' : Own H0 H' T (.ob pf (.lst (zs.map fun z => V.ref z.1)) :: .fm pc qc (vv (C.map nI)) :: .fm pr qr (vv (cut ns)) :: L) := B'
      rw [← hz2]
      have e9 : (zs.map (·.2)).map nI = (zs.map fun z => (z.1, nI z.2)).map (·.2) := by rw [List.map_map, List.map_map]; rfl
      rw [e9]
      refine fam_refs0 ?_ ?_ fun z hzz => ?_
      · have := B'.get pf
        rw [List.map_map]
        exact this
      · rw [List.map_map]
        have n1 : qc.Nodup := (B'.rowsF pc).nd
        have n2 : ((qc.zip C).map (·.1)).Nodup := by rw [List.map_fst_zip (by omega)]; exact n1
        rw [hz]
        exact n2.sublist ((List.filter_sublist).map _)
      · obtain ⟨y, hy, rfl⟩ := List.mem_map.mp hzz
        obtain ⟨i, hi⟩ := List.mem_iff_getElem?.mp (hzm y hy)
        rw [List.getElem?_zip_eq_some] at hi
        exact B'.rowAt pc hi.1 (vv_get (by rw [List.getElem?_map, hi.2]; rfl))
end
end My
namespace My
open PySem PySem.Spec PyProof.Rows L2 LamX
local macro_rules | `(tactic| infer_instance) => `(tactic| first
  | with_reducible refine s_var (by with_unfolding_all exact rfl) ?_
  | with_reducible apply s_C
  | with_reducible apply s_op
  | with_reducible apply s_i0
  | with_reducible apply s_seq
  | with_reducible apply s_asg
  | with_reducible apply s_gn
  | with_reducible apply s_nil
  | with_reducible apply s_cons
  | with_reducible apply s_cb
  | with_reducible apply s_call
  | with_reducible apply s_un
  | with_reducible apply s_u
  | with_reducible apply s_test
  | with_reducible apply s_blV
  | with_reducible apply s_eqI
  | with_reducible apply s_neI
  | with_reducible apply s_ifs
  | with_reducible apply s_drop
  | with_reducible apply s_ret
  | with_reducible apply s_lst
  | with_reducible apply s_tup
  | with_reducible apply s_and
  | with_reducible apply s_or
  | with_reducible apply s_not
  | with_reducible apply s_tB
  | with_reducible apply s_bm
  | with_reducible apply s_bm0
  | with_reducible apply s_for
  | with_reducible apply s_iList
  | with_reducible apply s_iTup
  | with_reducible apply s_mndS
  | with_reducible apply s_srtS
  | with_reducible apply s_lc2S
  | with_reducible apply s_remS
  | with_reducible apply s_iRng
  | with_reducible apply s_iEnum
  | with_reducible apply s_iRng3
  | with_reducible apply s_iZip
  | with_reducible apply s_iZip3
  | with_reducible apply s_iRev
  | with_reducible apply s_get2S
  | with_reducible apply s_iEZ
  | with_reducible apply s_sl
  | with_reducible apply s_noPart
  | with_reducible apply s_part
  | with_reducible apply s_partI
  | with_reducible apply s_neS
  | with_reducible apply s_eqS
  | with_reducible apply s_lc
  | with_reducible apply s_dc
  | with_reducible apply s_dg
  | with_reducible apply s_di
  | with_reducible apply s_dni
  | with_reducible apply s_yes
  | with_reducible apply s_chain
  | with_reducible refine s_aug (by with_unfolding_all exact rfl) ?_
  | with_reducible apply s_ip
  | with_reducible apply s_revL
  | with_reducible apply s_gsub
  | with_reducible apply s_gslc
  | with_reducible apply s_parS
  | with_reducible apply s_par
  | with_reducible apply s_gc
  | with_reducible apply s_gnil
  | with_reducible apply s_brk
  | with_reducible apply s_cnt
  | with_reducible apply s_next
  | with_reducible apply s_andV
  | with_reducible apply s_orV
  | with_reducible apply s_notV
  | with_reducible apply s_isB
  | with_reducible apply s_notB
  | with_reducible apply s_max2
  | with_reducible apply s_min2
  | with_reducible apply s_abs
  | with_reducible apply s_intB
  | (with_reducible refine s_len (by assumption) ?_)
  | (with_reducible refine s_lenF (by assumption) ?_)
  | (with_reducible refine s_ty (by assumption) ?_)
  | (with_reducible refine s_tyF (by assumption) ?_)
  | (with_reducible refine s_i (by first | decide | exact cpow_ok (by decide) (by decide) (by decide) | exact cdivw (by decide) (by decide) | exact cmul_l (by decide) (by decide) | exact cmul_r (by decide) (by decide) | omega | exact cmul_l (by omega) (by omega) | exact cmul_r (by omega) (by omega)) ?_))

abbrev nLawFacts : List Str := ["pot", "result", "many", "few", "found", "turn", "some", "one", "other", "way"]
theorem scLawFacts : FnScope nLawFacts ["pot", "result", "many"] (defScope sLawFacts) := ⟨rfl, rfl, rfl, by decide +kernel, rfl, by decide +kernel, by decide +kernel⟩

theorem Own.cellF {H0 H : Hp} {T : List (Addr × Str)} {L : List Cell} {t : Addr} {o : HO} (B : Own H0 H T L) (h : Cell.ob t o ∈ L) : H t = some o := (B.ok _ h).1
/-- facts, each one in a cell of its own -/
def fcC (zs : List (Addr × Fc)) : List Cell := zs.map fun z => .ob z.1 (fcO z.2)
theorem FcsAt.ofC {H0 H : Hp} {T : List (Addr × Str)} {L : List Cell} {p : Addr} {zs : List (Addr × Fc)} (B : Own H0 H T (.ob p (.lst (zs.map fun z => V.ref z.1)) :: (fcC zs ++ L))) : FcsAt H p (zs.map (·.1)) (zs.map (·.2)) := by
  refine ⟨?_, by rw [List.length_map, List.length_map], fun i t f h1 h2 => ?_⟩
  · rw [List.map_map]; exact B.cellF (List.mem_cons_self ..)
  · rw [List.getElem?_map] at h1 h2
    obtain ⟨z, hz, rfl⟩ := Option.map_eq_some_iff.mp h1
    rw [hz] at h2
    cases h2
    exact B.cellF (List.mem_cons_of_mem _ (List.mem_append_left _ (List.mem_map.mpr ⟨z, List.mem_of_getElem? hz, rfl⟩)))
section
variable {P : Program} {w : World} {K : PySem.W.Frag} {mg : Str → Option Value} {base : Heap}
def spLawFacts : Sp := fun vs H Q _ => ∃ (H0 : Hp) (T : List (Addr × Str)) (L : List Cell) (D a : Addr) (ns : List Int) (n many : Nat), vs = [.ref D, .ref a, .int (many : Int)] ∧ Own H0 H T (.pr D (CanO n) :: L) ∧ (∀ H', Own H0 H' T L → H' a = some (.lst (ns.map V.int))) ∧ ns.Nodup ∧ ns.length ≤ 200 ∧ many ≤ 60 ∧ n ≤ 800000 ∧
  ∀ (p : Addr) (ts : List Addr) (fs : List Fc) (N : List Cell) H', fs.length ≤ many → FactsAt H0 T (N ++ L) a ns p ts fs → Own H0 H' T (.pr D (CanO (n + 1000)) :: (N ++ L)) → Q (.ref p) H'
theorem u_lfacts {H0 H : Hp} {T : List (Addr × Str)} {L : List Cell} {D a : Addr} {ns : List Int} {n many : Nat} {Q : VK} {E : XK} (B : Own H0 H T (.pr D (CanO n) :: L)) (A : ∀ H', Own H0 H' T L → H' a = some (.lst (ns.map V.int))) (nd : ns.Nodup) (hl : ns.length ≤ 200) (hm : many ≤ 60) (hn : n ≤ 800000)
  (k : ∀ (p : Addr) (ts : List Addr) (fs : List Fc) (N : List Cell) H', fs.length ≤ many → FactsAt H0 T (N ++ L) a ns p ts fs → Own H0 H' T (.pr D (CanO (n + 1000)) :: (N ++ L)) → Q (.ref p) H') : spLawFacts [.ref D, .ref a, .int (many : Int)] H Q E := ⟨_, _, _, _, _, _, _, _, rfl, B, A, nd, hl, hm, hn, k⟩
set_option maxHeartbeats 0 in
theorem ok_LawFacts {f : Addr} {fd : FuncData} {k : Nat} (F : Fun K "_law_facts" "_law_facts" sLawFacts f fd) (Tx : Txt mg) (C__law_take : Cal P w K mg base k "_law_take" ["pot", "many"] spLawTake) (C__law_some : Cal P w K mg base k "_law_some" ["pot", "things", "many"] spLawSome) : FnOk P w K mg base CX0 (k + 1) f fd ["pot", "result", "many"] spLawFacts := by
  refine F.ok scLawFacts (fun vs H Q E h => ?_) (fun cdv A outer s H vs Q E hr h => ?_)
  · obtain ⟨_, _, _, D, a, ns, n, many, rfl, _⟩ := h
    rfl
  · obtain ⟨H0, T, L, D, a, ns, n, many, rfl, B, hA, nd, hl, hm, hn, q⟩ := h
    refine ⟨_, (pss_cons (ps_par (i := 3) (j := 4) (by rfl) scLawFacts.nd rfl rfl (by decide) rfl rfl (pa_cons (pe_cal C__law_some hr (by rfl) (pa_cons (pv 0) (pa_cons (pv 1) (pa_cons (pe_callB (cl_min2 (by rfl)) (by rfl) Tx.min (by decide +kernel) (pa_cons (pe_callB (cl_len) (by rfl) Tx.len (by decide +kernel) (pa_cons (pv 1) pa_nil)) (pa_cons pe_int pa_nil))) pa_nil)))) (pa_cons (pe_lst pa_nil) pa_nil)) (by rfl))
 (pss_cons (ps_for PassesOwn.never rfl (pi_range1 (by rfl) Tx.range (pa_cons (pe_ifExp (pt_cmpR op_gt (pe_callB (cl_len) (by rfl) Tx.len (by decide +kernel) (pa_cons (pv 1) pa_nil)) pe_int (by rfl)) (pe_cal C__law_take hr (by rfl) (pa_cons (pv 0) (pa_cons (pe_op op_add (pv 2) pe_int) pa_nil))) pe_int) pa_nil)) (pg_name (i := 5) scLawFacts.nd rfl (Or.inl rfl))
  (pss_cons (ps_set (i := 6) scLawFacts.nd rfl (.inl rfl) (pe_ix ix_list (pe_lst (pa_cons (pv 1) (pa_cons (pv 3) pa_nil))) (pe_cal C__law_take hr (by rfl) (pa_cons (pv 0) (pa_cons pe_int pa_nil))) (fun _ _ => rfl)))
 (pss_cons (ps_asg (pe_ifExp (pt_cmpR op_gt (pe_callB (cl_len) (by rfl) Tx.len (by decide +kernel) (pa_cons (pv 6) pa_nil)) pe_int (by rfl)) (pe_cal C__law_some hr (by rfl) (pa_cons (pv 0) (pa_cons (pv 6) (pa_cons pe_int pa_nil)))) (pe_slice sl_list (pv 1) po_none (po_some pe_int))) (pg_unl (by rfl) (pgs_cons (pg_name (i := 7) scLawFacts.nd rfl (Or.inl rfl)) (pgs_cons (pg_name (i := 8) scLawFacts.nd rfl (Or.inl rfl)) pgs_nil))))
 (pss_cons (ps_set (i := 9) scLawFacts.nd rfl (.inl rfl) (pe_cal C__law_take hr (by rfl) (pa_cons (pv 0) (pa_cons pe_int pa_nil))))
 (pss_one (ps_expr (pe_bm PySem.F.plainAttrs_list PySem.F.slot_list_append PySem.F.type_list_append mt_append (pv 4) (pa_cons (pe_ix ix_list (pe_lst (pa_cons (pe_tup (pa_cons pe_str (pa_cons (pv 7) (pa_cons (pv 8) pa_nil)))) (pa_cons (pe_tup (pa_cons pe_str (pa_cons (pv 7) (pa_cons (pv 8) pa_nil)))) (pa_cons (pe_tup (pa_cons pe_str (pa_cons (pv 7) (pa_cons (pe_cal C__law_take hr (by rfl) (pa_cons (pv 0) (pa_cons pe_int pa_nil))) pa_nil)))) pa_nil)))) (pe_op op_fdivW (pv 9) pe_int) (fun _ _ => rfl)) pa_nil))))))))
 (pss_one (ps_ret (pv 4))))), ?_⟩
    repeat infer_instance
    refine s_lenH (hA _ B.tail) ?_
    rw [List.length_map]
    repeat infer_instance
    refine u_some B (hA _ B.tail) (by omega) (by omega) (by omega) (by omega) fun pw few rest H hfl hfp B => ?_
    repeat infer_instance
    have hf4 : (if (4 : Int) < (ns.length : Int) then 4 else (ns.length : Int)).toNat ≤ 4 := by split <;> omega
    have hf2 : 1 < ns.length → 2 ≤ few.length := fun h => by
      split at hfl <;> omega
    have hf10 : few.length ≤ 4 := by
      split at hfl <;> omega
    have hfn : ∀ x ∈ few, x ∈ ns := fun x hx => hfp.mem_iff.mp (List.mem_append_left _ hx)
    have hfd : few.Nodup := (hfp.nodup_iff.mpr nd).sublist (List.sublist_append_left _ _)
    generalize (if (4 : Int) < (ns.length : Int) then 4 else (ns.length : Int)).toNat = e4 at hf4 B
    have B := B.upD D (show n + e4 ≤ n + 5 by omega)
    have B : Own H0 H T (.ob pw (.lst (few.map V.int)) :: .pr D (CanO (n + 5)) :: L) := B.arr
    refine s_newL B (Nat.zero_le _) fun pf H B => ?_
    repeat infer_instance
    refine s_key (fun v H' => ∃ c : Nat, v = .int (c : Int) ∧ c ≤ many ∧ (0 < c → 1 < ns.length) ∧ Own H0 H' T (.ob pf (.lst []) :: .ob pw (.lst (few.map V.int)) :: .pr D (CanO (n + 6)) :: L)) (fun key => ?_) ?_
    · refine s_ifx ?_
      repeat infer_instance
      refine s_lenH (hA _ B.tail.tail.tail) ?_
      rw [List.length_map]
      repeat infer_instance
      refine iteD (fun h => ?_) (fun h => ?_)
      · repeat infer_instance
        refine u_take B (by omega) (by omega) (by omega) fun v H B hv => ?_
        exact key _ _ ⟨v, rfl, by omega, fun _ => by omega, B.arr⟩
      · repeat infer_instance
        exact key _ _ ⟨0, rfl, Nat.zero_le _, fun h => absurd h (Nat.lt_irrefl _), (B.upD D (show n + 5 ≤ n + 6 by omega)).arr⟩
    rintro _ H ⟨c, rfl, hc, hc1, B⟩
    repeat infer_instance
    refine s_itR (by omega) (by omega) ?_
    rw [Int.toNat_natCast]
    refine s_forR (fun i σ M => ∃ (zs : List (Addr × Fc)) (y5 y6 y7 y8 y9 : Option V), σ = [some (.ref D), some (.ref a), some (.int (many : Int)), some (.ref pw), some (.ref pf), y5, y6, y7, y8, y9] ∧ zs.length = i ∧ (∀ z ∈ zs, okF ns z.2) ∧ M = .pr D (CanO (n + 6 + 5 * i)) :: .ob pw (.lst (few.map V.int)) :: .ob pf (.lst (zs.map fun z => V.ref z.1)) :: (fcC zs ++ L)) (show Own H0 H T (.pr D (CanO (n + 6 + 5 * 0)) :: .ob pw (.lst (few.map V.int)) :: .ob pf (.lst []) :: (fcC [] ++ L)) from (show Own H0 H T (.pr D (CanO (n + 6)) :: .ob pw (.lst (few.map V.int)) :: .ob pf (.lst []) :: L) from B.arr)) ⟨[], none, none, none, none, none, rfl, rfl, (fun z h => nomatch h), rfl⟩ ?_ ?_
    · rintro i σ M H hi ⟨zs, y5, y6, y7, y8, y9, rfl, hz, hok, rfl⟩ B
      have hn1 := hc1 (by omega)
      have hA2 : ∀ {H'}, Own H0 H' T (fcC zs ++ L) → H' a = some (.lst (ns.map V.int)) := fun {H'} B' => hA H' (Own.offN B')
      repeat infer_instance
      refine s_newL B (show 2 ≤ sizeLine by decide) fun l0 H B => ?_
      repeat infer_instance
      refine u_take B (by omega) (by decide) (by decide) fun v H B hv => ?_
      repeat infer_instance
      obtain ⟨sr, rs, hsm, hr2, hr200, hrd, hrn, hrA⟩ : ∃ (sr : Addr) (rs : List Int), atI [V.ref a, V.ref pw] (v : Int) = some (.ref sr) ∧ 2 ≤ rs.length ∧ rs.length ≤ 200 ∧ rs.Nodup ∧ (∀ x ∈ rs, x ∈ ns) ∧ ∀ H', Own H0 H' T (.ob pw (.lst (few.map V.int)) :: .ob pf (.lst (zs.map fun z => V.ref z.1)) :: (fcC zs ++ L)) → H' sr = some (.lst (rs.map V.int)) := by
        rcases (show v = 0 ∨ v = 1 by omega) with rfl | rfl
        · exact ⟨a, ns, rfl, by omega, hl, nd, fun x h => h, fun H' B' => hA2 B'.tail.tail⟩
        · exact ⟨pw, few, rfl, hf2 hn1, by omega, hfd, hfn, fun H' B' => B'.get pw⟩
      refine s_ix B hsm ?_
      refine s_gn ?_
      have B : Own H0 H T (.pr D (CanO (n + 6 + 5 * i + 1)) :: .ob pw (.lst (few.map V.int)) :: .ob pf (.lst (zs.map fun z => V.ref z.1)) :: (fcC zs ++ L)) := B.arr
      repeat infer_instance
      refine s_ifx ?_
      repeat infer_instance
      refine s_lenH (hrA _ B.tail) ?_
      rw [List.length_map]
      repeat infer_instance
      rw [decide_eq_true (show (1 : Int) < (rs.length : Int) by omega)]
      refine iteT ?_
      repeat infer_instance
      refine u_some B (hrA _ B.tail) (by decide) (by omega) (by omega) (by omega) fun pt out rest H hol hop B => ?_
      obtain ⟨x, y, rfl⟩ : ∃ x y, out = [x, y] := by
        match out, hol with
        | [x, y], _ => exact ⟨x, y, rfl⟩
      have hxy : x ≠ y := by
        have := (hop.nodup_iff.mpr hrd).sublist (List.sublist_append_left _ _)
        exact fun e => by rw [e] at this; simp at this
      have hx : x ∈ ns := hrn x (hop.mem_iff.mp (by simp))
      have hy : y ∈ ns := hrn y (hop.mem_iff.mp (by simp))
      repeat infer_instance
      have hpt : H pt = some (.lst [.int x, .int y]) := B.get pt
      refine s_gu hpt rfl ?_
      repeat infer_instance
      rw [show Int.toNat 2 = 2 from rfl] at B
      have B : Own H0 H T (.pr D (CanO (n + 6 + 5 * i + 1 + 2)) :: .ob pw (.lst (few.map V.int)) :: .ob pf (.lst (zs.map fun z => V.ref z.1)) :: (fcC zs ++ L)) := B.arr
      refine u_take B (by omega) (by decide) (by decide) fun way H B hway => ?_
      repeat infer_instance
      refine s_newT B (show 3 ≤ sizeLine by decide) fun t0 H B => ?_
      repeat infer_instance
      refine s_newT B (show 3 ≤ sizeLine by decide) fun t1 H B => ?_
      repeat infer_instance
      refine u_take B (by omega) (by decide) (by decide) fun qq H B hqq => ?_
      repeat infer_instance
      refine s_newT B (show 3 ≤ sizeLine by decide) fun t2 H B => ?_
      repeat infer_instance
      refine s_newL B (show 3 ≤ sizeLine by decide) fun l1 H B => ?_
      repeat infer_instance
      rw [show n + 6 + 5 * i + 1 + 2 + 1 + 1 = n + 6 + 5 * (i + 1) by omega] at B
      have B3 : Own H0 H T (.ob l1 (.lst [.ref t0, .ref t1, .ref t2]) :: .ob t2 (fcO (fc "in" x (qq : Int))) :: .pr D (CanO (n + 6 + 5 * (i + 1))) :: .ob t1 (fcO (fc "apart" x y)) :: .ob t0 (fcO (fc "same" x y)) :: .ob pw (.lst (few.map V.int)) :: .ob pf (.lst (zs.map fun z => V.ref z.1)) :: (fcC zs ++ L)) := B
      obtain ⟨t, f, hat, hokf, B2⟩ : ∃ (t : Addr) (f : Fc), atI [V.ref t0, V.ref t1, V.ref t2] ((way : Int) / 2) = some (.ref t) ∧ okF ns f ∧ Own H0 H T (.pr D (CanO (n + 6 + 5 * (i + 1))) :: .ob pw (.lst (few.map V.int)) :: .ob pf (.lst (zs.map fun z => V.ref z.1)) :: .ob t (fcO f) :: (fcC zs ++ L)) := by
        rcases (show way = 0 ∨ way = 1 ∨ way = 2 ∨ way = 3 ∨ way = 4 by omega) with rfl | rfl | rfl | rfl | rfl
        · exact ⟨t0, fc "same" x y, rfl, ⟨hx, .inr ⟨.inl rfl, hy, hxy⟩⟩, B3.arr⟩
        · exact ⟨t0, fc "same" x y, rfl, ⟨hx, .inr ⟨.inl rfl, hy, hxy⟩⟩, B3.arr⟩
        · exact ⟨t1, fc "apart" x y, rfl, ⟨hx, .inr ⟨.inr rfl, hy, hxy⟩⟩, B3.arr⟩
        · exact ⟨t1, fc "apart" x y, rfl, ⟨hx, .inr ⟨.inr rfl, hy, hxy⟩⟩, B3.arr⟩
        · exact ⟨t2, fc "in" x (qq : Int), rfl, ⟨hx, .inl ⟨rfl, by show (qq : Int) = 0 ∨ (qq : Int) = 1; omega⟩⟩, B3.arr⟩
      refine s_ixS (SqL.of (B.get l1)) hat ?_
      repeat infer_instance
      refine s_append B2 (by rw [List.length_map]; unfold sizeLine; omega) fun H B => ?_
      repeat infer_instance
      have em : zs.map (fun z => V.ref z.1) ++ [V.ref t] = (zs ++ [(t, f)]).map fun z => V.ref z.1 := by rw [List.map_append]; rfl
      rw [em] at B
      have ec : fcC (zs ++ [(t, f)]) ++ L = fcC zs ++ (.ob t (fcO f) :: L) := by unfold fcC; rw [List.map_append, List.append_assoc]; rfl
      have B : Own H0 H T (.pr D (CanO (n + 6 + 5 * (i + 1))) :: .ob pw (.lst (few.map V.int)) :: .ob pf (.lst ((zs ++ [(t, f)]).map fun z => V.ref z.1)) :: .ob t (fcO f) :: (fcC zs ++ L)) := B.arr
      have B : Own H0 H T (.pr D (CanO (n + 6 + 5 * (i + 1))) :: .ob pw (.lst (few.map V.int)) :: .ob pf (.lst ((zs ++ [(t, f)]).map fun z => V.ref z.1)) :: (fcC (zs ++ [(t, f)]) ++ L)) := by
        rw [ec]
        exact B.perm (((List.perm_middle.symm.cons _).cons _).cons _)
      exact s_inn B ⟨zs ++ [(t, f)], _, _, _, _, _, rfl, by rw [List.length_append, hz]; rfl, (fun z hz9 => by
        rcases List.mem_append.mp hz9 with h | h
        · exact hok z h
        · rw [List.mem_singleton.mp h]; exact hokf), rfl⟩
    · rintro σ M H ⟨zs, y5, y6, y7, y8, y9, rfl, hz, hok, rfl⟩ B
      repeat infer_instance
      exact q pf (zs.map (·.1)) (zs.map (·.2)) (.ob pw (.lst (few.map V.int)) :: .ob pf (.lst (zs.map fun z => V.ref z.1)) :: fcC zs) H (by rw [List.length_map]; omega) ⟨fun H' B' => hA H' (Own.offN B'.tail.tail), fun H' B' => FcsAt.ofC B'.tail, nd, by omega, fun f hf => by
        obtain ⟨z, hz2, rfl⟩ := List.mem_map.mp hf
        exact hok z hz2, by rw [List.length_map]; omega⟩ (B.upD D (by omega))
end
end My
namespace My
open PySem PySem.Spec PyProof.Rows L2 LamX
local macro_rules | `(tactic| infer_instance) => `(tactic| first
  | with_reducible refine s_var (by with_unfolding_all exact rfl) ?_
  | with_reducible apply s_C
  | with_reducible apply s_op
  | with_reducible apply s_i0
  | with_reducible apply s_seq
  | with_reducible apply s_asg
  | with_reducible apply s_gn
  | with_reducible apply s_nil
  | with_reducible apply s_cons
  | with_reducible apply s_cb
  | with_reducible apply s_call
  | with_reducible apply s_un
  | with_reducible apply s_u
  | with_reducible apply s_test
  | with_reducible apply s_blV
  | with_reducible apply s_eqI
  | with_reducible apply s_neI
  | with_reducible apply s_ifs
  | with_reducible apply s_drop
  | with_reducible apply s_ret
  | with_reducible apply s_lst
  | with_reducible apply s_tup
  | with_reducible apply s_and
  | with_reducible apply s_or
  | with_reducible apply s_not
  | with_reducible apply s_tB
  | with_reducible apply s_bm
  | with_reducible apply s_bm0
  | with_reducible apply s_for
  | with_reducible apply s_iList
  | with_reducible apply s_iTup
  | with_reducible apply s_mndS
  | with_reducible apply s_srtS
  | with_reducible apply s_lc2S
  | with_reducible apply s_remS
  | with_reducible apply s_iRng
  | with_reducible apply s_iEnum
  | with_reducible apply s_iRng3
  | with_reducible apply s_iZip
  | with_reducible apply s_iZip3
  | with_reducible apply s_iRev
  | with_reducible apply s_get2S
  | with_reducible apply s_iEZ
  | with_reducible apply s_sl
  | with_reducible apply s_noPart
  | with_reducible apply s_part
  | with_reducible apply s_partI
  | with_reducible apply s_neS
  | with_reducible apply s_eqS
  | with_reducible apply s_lc
  | with_reducible apply s_dc
  | with_reducible apply s_dg
  | with_reducible apply s_di
  | with_reducible apply s_dni
  | with_reducible apply s_yes
  | with_reducible apply s_chain
  | with_reducible refine s_aug (by with_unfolding_all exact rfl) ?_
  | with_reducible apply s_ip
  | with_reducible apply s_revL
  | with_reducible apply s_gsub
  | with_reducible apply s_gslc
  | with_reducible apply s_parS
  | with_reducible apply s_par
  | with_reducible apply s_gc
  | with_reducible apply s_gnil
  | with_reducible apply s_brk
  | with_reducible apply s_cnt
  | with_reducible apply s_next
  | with_reducible apply s_andV
  | with_reducible apply s_orV
  | with_reducible apply s_notV
  | with_reducible apply s_isB
  | with_reducible apply s_notB
  | with_reducible apply s_max2
  | with_reducible apply s_min2
  | with_reducible apply s_abs
  | with_reducible apply s_intB
  | (with_reducible refine s_len (by assumption) ?_)
  | (with_reducible refine s_lenF (by assumption) ?_)
  | (with_reducible refine s_ty (by assumption) ?_)
  | (with_reducible refine s_tyF (by assumption) ?_)
  | (with_reducible refine s_i (by first | decide | exact cpow_ok (by decide) (by decide) (by decide) | exact cdivw (by decide) (by decide) | exact cmul_l (by decide) (by decide) | exact cmul_r (by decide) (by decide) | omega | exact cmul_l (by omega) (by omega) | exact cmul_r (by omega) (by omega)) ?_))

abbrev nLawShort : List Str := ["pot", "most", "numbers"]
theorem scLawShort : FnScope nLawShort ["pot", "most"] (defScope sLawShort) := ⟨rfl, rfl, rfl, by decide +kernel, rfl, by decide +kernel, by decide +kernel⟩

theorem cut_l1 (xs : List V) (x : V) : cutV (xs ++ [x]) none (some (-1)) = xs := by
  unfold cutV
  have h1 : HT.sIx (xs ++ [x]).length 0 none = 0 := rfl
  have h2 : HT.sIx (xs ++ [x]).length (xs ++ [x]).length (some (-1)) = xs.length := by
    unfold HT.sIx
    simp
    omega
  rw [h1, h2, List.drop_zero, Nat.sub_zero]
  simp
theorem cut_l2 {ns : List Int} (h : ns ≠ []) : cutV (ns.map V.int) none (some (-1)) = ns.dropLast.map V.int := by
  conv => lhs; rw [← List.dropLast_concat_getLast h, List.map_append]
  exact cut_l1 _ _
section
variable {P : Program} {w : World} {K : PySem.W.Frag} {mg : Str → Option Value} {base : Heap}
def spLawShort : Sp := fun vs H Q _ => ∃ (H0 : Hp) (T : List (Addr × Str)) (L : List Cell) (D : Addr) (n m : Nat), vs = [.ref D, .int (m : Int)] ∧ Own H0 H T (.pr D (CanO n) :: L) ∧ n ≤ 700000 ∧
  ∀ p (ns : List Int) H', ns.Nodup → ns.length ≤ 10 → Wd ns → (cut ns).length ≤ m → Own H0 H' T (.ob p (.lst (ns.map V.int)) :: .pr D (CanO (n + 1001)) :: L) → Q (.ref p) H'
theorem u_short {H0 H : Hp} {T : List (Addr × Str)} {L L' : List Cell} {D : Addr} {n m : Nat} {Q : VK} {E : XK} (B : Own H0 H T L) [P : Pull L D (.pr D (CanO n)) L'] (hn : n ≤ 700000)
  (k : ∀ p (ns : List Int) H', ns.Nodup → ns.length ≤ 10 → Wd ns → (cut ns).length ≤ m → Own H0 H' T (.ob p (.lst (ns.map V.int)) :: .pr D (CanO (n + 1001)) :: L') → Q (.ref p) H') : spLawShort [.ref D, .int (m : Int)] H Q E := ⟨_, _, _, _, _, _, rfl, B.pull D, hn, k⟩
set_option maxHeartbeats 0 in
theorem ok_LawShort {f : Addr} {fd : FuncData} {k : Nat} (F : Fun K "_law_short" "_law_short" sLawShort f fd) (Tx : Txt mg) (C__law_take : Cal P w K mg base k "_law_take" ["pot", "many"] spLawTake) (C__law_numbers : Cal P w K mg base k "_law_numbers" ["pot", "many"] spLawNumbers) (C__law_blocks : Cal P w K mg base k "_law_blocks" ["numbers"] spLawBlocks) : FnOk P w K mg base CX0 (k + 1) f fd ["pot", "most"] spLawShort := by
  refine F.ok scLawShort (fun vs H Q E h => ?_) (fun cdv A outer s H vs Q E hr h => ?_)
  · obtain ⟨_, _, _, D, n, m, rfl, _⟩ := h
    rfl
  · obtain ⟨H0, T, L, D, n, m, rfl, B, hn, q⟩ := h
    refine ⟨_, (pss_cons (ps_set (i := 2) scLawShort.nd rfl (.inl rfl) (pe_cal C__law_numbers hr (by rfl) (pa_cons (pv 0) (pa_cons (pe_cal C__law_take hr (by rfl) (pa_cons (pv 0) (pa_cons pe_int pa_nil))) pa_nil))))
 (pss_cons (ps_while PassesOwn.never (pt_cmpR op_gt (pe_callB (cl_len) (by rfl) Tx.len (by decide +kernel) (pa_cons (pe_cal C__law_blocks hr (by rfl) (pa_cons (pv 2) pa_nil)) pa_nil)) (pv 1) (by rfl))
  (pss_one (ps_set (i := 2) scLawShort.nd rfl (.inl rfl) (pe_slice sl_list (pv 2) po_none (po_some (pe_un un_neg pe_int))))))
 (pss_one (ps_ret (pv 2))))), ?_⟩
    repeat infer_instance
    refine u_take B (by omega) (by decide) (by decide) fun v H B hv => ?_
    repeat infer_instance
    refine ⟨_, _, _, D, v, n + 1, rfl, B, by omega, by omega, fun p ns H nd hl wd B => ?_⟩
    repeat infer_instance
    refine s_while (fun k σ M => ∃ (p : Addr) (ns : List Int), σ = [some (.ref D), some (.int (m : Int)), some (.ref p)] ∧ ns.length = k ∧ ns.Nodup ∧ ns.length ≤ 10 ∧ Wd ns ∧ M = .ob p (.lst (ns.map V.int)) :: .pr D (CanO (n + 1001)) :: L) ns.length (show Own H0 H T (.ob p (.lst (ns.map V.int)) :: .pr D (CanO (n + 1001)) :: L) from (by rw [show n + 1001 = n + 1 + 1000 by omega]; exact B)) ⟨p, ns, rfl, rfl, nd, by omega, wd, rfl⟩ ?_
    rintro k σ M H ⟨p, ns, rfl, hk, nd, hl, wd, rfl⟩ B
    repeat infer_instance
    refine u_cblocks B (fun H' B' => B'.get p) nd (by omega) fun pb qb H B => ?_
    have hqb := B.lenF pb
    repeat infer_instance
    refine iteD (fun h => ?_) (fun h => ?_)
    · refine s_whB ?_
      repeat infer_instance
      refine s_slL B (B.get p) fun s1 H B => ?_
      repeat infer_instance
      have hne : ns ≠ [] := fun z => by
        have := (good_cut ns).len
        rw [z] at this hqb
        have e0 : (cut ([] : List Int)).length = 0 := rfl
        omega
      have hp := List.length_pos_iff.mpr hne
      rw [cut_l2 hne] at B
      have hd := List.length_dropLast (xs := ns)
      have h1 : ns.dropLast.length < k := by omega
      have h2 : ns.dropLast.length ≤ 10 := by omega
      have h3 : ns.dropLast.Nodup := nd.sublist (List.dropLast_sublist _)
      have h4 : Wd ns.dropLast := fun x hx => wd x ((List.dropLast_sublist _).mem hx)
      exact ⟨ns.dropLast.length, .ob s1 (.lst (ns.dropLast.map V.int)) :: .pr D (CanO (n + 1001)) :: L, h1, ⟨s1, ns.dropLast, rfl, rfl, h3, h2, h4, rfl⟩, B.arr⟩
    · repeat infer_instance
      exact q p ns H nd hl wd (by omega) B.arr
end
end My
namespace My
open PySem PySem.Spec PyProof.Rows L2 LamX
local macro_rules | `(tactic| infer_instance) => `(tactic| first
  | with_reducible refine s_var (by with_unfolding_all exact rfl) ?_
  | with_reducible apply s_C
  | with_reducible apply s_op
  | with_reducible apply s_i0
  | with_reducible apply s_seq
  | with_reducible apply s_asg
  | with_reducible apply s_gn
  | with_reducible apply s_nil
  | with_reducible apply s_cons
  | with_reducible apply s_cb
  | with_reducible apply s_call
  | with_reducible apply s_un
  | with_reducible apply s_u
  | with_reducible apply s_test
  | with_reducible apply s_blV
  | with_reducible apply s_eqI
  | with_reducible apply s_neI
  | with_reducible apply s_ifs
  | with_reducible apply s_drop
  | with_reducible apply s_ret
  | with_reducible apply s_lst
  | with_reducible apply s_tup
  | with_reducible apply s_and
  | with_reducible apply s_or
  | with_reducible apply s_not
  | with_reducible apply s_tB
  | with_reducible apply s_bm
  | with_reducible apply s_bm0
  | with_reducible apply s_for
  | with_reducible apply s_iList
  | with_reducible apply s_iTup
  | with_reducible apply s_mndS
  | with_reducible apply s_srtS
  | with_reducible apply s_lc2S
  | with_reducible apply s_remS
  | with_reducible apply s_iRng
  | with_reducible apply s_iEnum
  | with_reducible apply s_iRng3
  | with_reducible apply s_iZip
  | with_reducible apply s_iZip3
  | with_reducible apply s_iRev
  | with_reducible apply s_get2S
  | with_reducible apply s_iEZ
  | with_reducible apply s_sl
  | with_reducible apply s_noPart
  | with_reducible apply s_part
  | with_reducible apply s_partI
  | with_reducible apply s_neS
  | with_reducible apply s_eqS
  | with_reducible apply s_lc
  | with_reducible apply s_dc
  | with_reducible apply s_dg
  | with_reducible apply s_di
  | with_reducible apply s_dni
  | with_reducible apply s_yes
  | with_reducible apply s_chain
  | with_reducible refine s_aug (by with_unfolding_all exact rfl) ?_
  | with_reducible apply s_ip
  | with_reducible apply s_revL
  | with_reducible apply s_gsub
  | with_reducible apply s_gslc
  | with_reducible apply s_parS
  | with_reducible apply s_par
  | with_reducible apply s_gc
  | with_reducible apply s_gnil
  | with_reducible apply s_brk
  | with_reducible apply s_cnt
  | with_reducible apply s_next
  | with_reducible apply s_andV
  | with_reducible apply s_orV
  | with_reducible apply s_notV
  | with_reducible apply s_isB
  | with_reducible apply s_notB
  | with_reducible apply s_max2
  | with_reducible apply s_min2
  | with_reducible apply s_abs
  | with_reducible apply s_intB
  | (with_reducible refine s_len (by assumption) ?_)
  | (with_reducible refine s_lenF (by assumption) ?_)
  | (with_reducible refine s_ty (by assumption) ?_)
  | (with_reducible refine s_tyF (by assumption) ?_)
  | (with_reducible refine s_i (by first | decide | exact cpow_ok (by decide) (by decide) (by decide) | exact cdivw (by decide) (by decide) | exact cmul_l (by decide) (by decide) | exact cmul_r (by decide) (by decide) | omega | exact cmul_l (by omega) (by omega) | exact cmul_r (by omega) (by omega)) ?_))

abbrev nLawIsMinimal : List Str := ["result", "facts", "value", "indices", "at", "some"]
theorem scLawIsMinimal : FnScope nLawIsMinimal ["result", "facts", "value"] (defScope sLawIsMinimal) := ⟨rfl, rfl, rfl, by decide +kernel, rfl, by decide +kernel, by decide +kernel⟩

theorem pk_split {α : Type} {xs : List α} : ∀ {js : List Nat}, (∀ j ∈ js, j < xs.length) → ∀ n, pk xs (js.take n ++ js.drop (n + 1)) = (pk xs js).take n ++ (pk xs js).drop (n + 1)
  | [], _, n => by simp [pk]
  | j :: js, h, n => by
    have ej : xs[j]? = some (xs[j]'(h j (List.mem_cons_self ..))) := List.getElem?_eq_getElem _
    generalize xs[j]'(h j (List.mem_cons_self ..)) = x at ej
    have e : ∀ ks, pk xs (j :: ks) = x :: pk xs ks := fun ks => by unfold pk; rw [List.filterMap_cons, ej]
    cases n with
    | zero => rw [e]; rfl
    | succ n =>
      rw [e]
      show pk xs (j :: (js.take n ++ js.drop (n + 1))) = x :: ((pk xs js).take n ++ (pk xs js).drop (n + 1))
      rw [e, pk_split (fun i hi => h i (List.mem_cons_of_mem _ hi)) n]
theorem flt_at {js : List Nat} (nd : js.Nodup) {n j : Nat} (h : js[n]? = some j) : js.filter (· != j) = js.take n ++ js.drop (n + 1) := by
  have e : js = js.take n ++ j :: js.drop (n + 1) := by
    obtain ⟨hn, e⟩ := List.getElem?_eq_some_iff.mp h
    rw [← e]; simp
  have nd2 := nd
  rw [e] at nd2
  obtain ⟨n1, n2, n3⟩ := List.nodup_append.mp nd2
  have n4 := (List.nodup_cons.mp n2).1
  conv => lhs; rw [e]
  rw [List.filter_append, List.filter_cons, if_neg (by simp)]
  rw [List.filter_eq_self.mpr fun x hx => ?_, List.filter_eq_self.mpr fun x hx => ?_]
  · exact bne_iff_ne.mpr fun z => n4 (z ▸ hx)
  · exact bne_iff_ne.mpr fun z => n3 x hx j (List.mem_cons_self ..) z
theorem inV_mem {x : V} : ∀ {xs : List V}, x ∈ xs → eqV x x = true → inV x xs = true
  | [], h, _ => nomatch h
  | y :: xs, h, e => by
    show (eqV y x || inV x xs) = true
    rcases List.mem_cons.mp h with z | z
    · rw [← z, e]; rfl
    · rw [inV_mem z e, Bool.or_true]
theorem s_ninS {K : PySem.W.Frag} {H : Hp} {a : Addr} {x : Str} {ss : List Str} {Q : VK} (h : H a = some (.lst (ss.map V.str))) (m : x ∈ ss) (k : Q (.bl false) H) : rIn K true (.str x) (.ref a) H Q := by
  refine ⟨a, _, rfl, .inl (SqL.of h), rfl, ?_, ?_⟩
  · rw [List.all_map]
    exact List.all_eq_true.mpr fun x _ => rfl
  · have e : inV (.str x) (ss.map V.str) = true := inV_mem (List.mem_map.mpr ⟨x, m, rfl⟩) (beq_self_eq_true x)
    rw [e]
    exact k
theorem s_neFA {K : PySem.W.Frag} {H : Hp} {p p2 : Addr} {qs qs2 : List Addr} {fam fam2 : List (List Int)} {Q : VK} (F : FamAt H p qs fam) (G : FamAt H p2 qs2 fam2) (k : Q (.bl (!decide (fam = fam2))) H) : rNeD K (.ref p) (.ref p2) H Q :=
  ⟨dR fam, dR fam2, dpR F.top F.rows, dpR G.top G.rows, shapedR _, shapedR _, by rw [eqv_RR]; exact k⟩
theorem cut_fromM {xs : List V} (j : Nat) : cutV xs (some (j : Int)) none = xs.drop j := by
  unfold cutV
  rw [HT.sIx_nat, HT.sIx_none]
  rcases Nat.le_total j xs.length with h | h
  · rw [Nat.min_eq_left h, List.take_of_length_le (by rw [List.length_drop]; omega)]
  · rw [Nat.min_eq_right h, List.drop_of_length_le (Nat.le_refl _), List.drop_of_length_le h, List.take_nil]
section
variable {P : Program} {w : World} {K : PySem.W.Frag} {mg : Str → Option Value} {base : Heap}
def spLawIsMinimal : Sp := fun vs H Q _ => ∃ (H0 : Hp) (T : List (Addr × Str)) (L : List Cell) (a b v : Addr) (ns : List Int) (ts : List Addr) (fs : List Fc) (js : List Nat), vs = [.ref a, .ref b, .ref v] ∧ Own H0 H T L ∧ FactsAt H0 T L a ns b ts fs ∧ (∀ H', Own H0 H' T L → H' v = some (.lst ((ixs js).map V.int))) ∧ IsContra ns fs js ∧ (cut ns).length ≤ 7 ∧ ∀ H', Own H0 H' T L → Q (.bl true) H'
set_option maxHeartbeats 0 in
theorem ok_LawIsMinimal {f : Addr} {fd : FuncData} {k : Nat} (F : Fun K "_law_is_minimal" "_law_is_minimal" sLawIsMinimal f fd) (Tx : Txt mg) (C__law_fitting : Cal P w K mg base k "_law_fitting" ["result", "facts"] spLawFitting) : FnOk P w K mg base CX0 (k + 1) f fd ["result", "facts", "value"] spLawIsMinimal := by
  refine F.ok scLawIsMinimal (fun vs H Q E h => ?_) (fun cdv A outer s H vs Q E hr h => ?_)
  · obtain ⟨_, _, _, a, b, v, ns, ts, fs, js, rfl, _⟩ := h
    rfl
  · obtain ⟨H0, T, L, a, b, v, ns, ts, fs, js, rfl, B, F, A, C, h7, q⟩ := h
    refine ⟨_, (pss_cons (ps_if (pt_not (pt_val (pe_callB (call_isi) (by rfl) Tx.isi (by decide +kernel) (pa_cons (pv 2) (pa_cons (pe_bltn (by rfl) Tx.list (by decide +kernel) (v := .ty "list") rfl) pa_nil)))))
  (pss_one (ps_ret pe_bl)) pss_nil)
 (pss_cons (ps_set (i := 3) scLawIsMinimal.nd rfl (.inr rfl) (pe_lc (te := (tCB rRepI (tCons (tVar 4) tNil))) (tt := tYes) (own := [("at", 4)]) (g := (gName 4)) (by rfl) scLawIsMinimal.nd (pi_range1 (by rfl) Tx.range (pa_cons (pe_callB (cl_len) (by rfl) Tx.len (by decide +kernel) (pa_cons (pv 1) pa_nil)) pa_nil)) (blkOk_by (own := [("at", 4)]) (N := nLawIsMinimal) (sc := defScope sLawIsMinimal) (by decide +kernel)) (fun _ _ _ _ _ => (pg_name (i := 4) scLawIsMinimal.nd rfl (Or.inl rfl))) (fun _ _ _ _ _ => pts_nil) (fun _ _ _ _ _ => (pe_callB (cr_repI) (by rfl) Tx.repr (by decide +kernel) (pa_cons (pv 4) pa_nil)))))
 (pss_cons (ps_if (pt_cmpR (op_neD hr.units) (pe_lc (te := (tVar 4)) (tt := (tTest (tOp (rIn K true) (tCB rRepI (tCons (tVar 4) tNil)) (tVar 3)))) (own := [("at", 4)]) (g := (gName 4)) (by rfl) scLawIsMinimal.nd (pi_list (pv 2)) (blkOk_by (own := [("at", 4)]) (N := nLawIsMinimal) (sc := defScope sLawIsMinimal) (by decide +kernel)) (fun _ _ _ _ _ => (pg_name (i := 4) scLawIsMinimal.nd rfl (Or.inl rfl))) (fun _ _ _ _ _ => pts_one (pt_cmpR op_notIn_seq (pe_callB (cr_repI) (by rfl) Tx.repr (by decide +kernel) (pa_cons (pv 4) pa_nil)) (pv 3) (by rfl))) (fun _ _ _ _ _ => (pv 4))) (pe_lst pa_nil) (nomark _))
  (pss_one (ps_ret pe_bl)) pss_nil)
 (pss_cons (ps_if (pt_cmpR (op_neD hr.units) (pe_srtSet (by rfl) Tx.sorted (by rfl) Tx.set (by decide +kernel) (pv 2)) (pv 2) (by rfl))
  (pss_one (ps_ret pe_bl)) pss_nil)
 (pss_cons (ps_set (i := 5) scLawIsMinimal.nd rfl (.inr rfl) (pe_lc (te := (tOp (rIxL K) (tVar 1) (tVar 4))) (tt := tYes) (own := [("at", 4)]) (g := (gName 4)) (by rfl) scLawIsMinimal.nd (pi_list (pv 2)) (blkOk_by (own := [("at", 4)]) (N := nLawIsMinimal) (sc := defScope sLawIsMinimal) (by decide +kernel)) (fun _ _ _ _ _ => (pg_name (i := 4) scLawIsMinimal.nd rfl (Or.inl rfl))) (fun _ _ _ _ _ => pts_nil) (fun _ _ _ _ _ => (pe_ix ix_list (pv 1) (pv 4) (fun _ _ => rfl)))))
 (pss_cons (ps_if (pt_cmpR (op_neD hr.units) (pe_cal C__law_fitting hr (by rfl) (pa_cons (pv 0) (pa_cons (pv 5) pa_nil))) (pe_lst pa_nil) (nomark _))
  (pss_one (ps_ret pe_bl)) pss_nil)
 (pss_one (ps_ret (pe_cmpR (op_eqD hr.units) (pe_lc (te := (tVar 4)) (tt := (tTest (tOp (rEqD K) (tCall spLawFitting [] E0 (tCons (tVar 0) (tCons (tOp rCat (tSl (rSlL K) (tVar 5) tNoPart (tPart (tVar 4))) (tSl (rSlL K) (tVar 5) (tPart (tOp (rI0 fun i j => .int (i + j)) (tVar 4) (tC (.int 1)))) tNoPart)) tNil))) (tLst tNil)))) (own := [("at", 4)]) (g := (gName 4)) (by rfl) scLawIsMinimal.nd (pi_range1 (by rfl) Tx.range (pa_cons (pe_callB (cl_len) (by rfl) Tx.len (by decide +kernel) (pa_cons (pv 5) pa_nil)) pa_nil)) (blkOk_by (own := [("at", 4)]) (N := nLawIsMinimal) (sc := defScope sLawIsMinimal) (by decide +kernel)) (fun _ _ _ _ _ => (pg_name (i := 4) scLawIsMinimal.nd rfl (Or.inl rfl))) (fun _ _ _ _ _ => pts_one (pt_cmpR (op_eqD hr.units) (pe_cal C__law_fitting hr (by rfl) (pa_cons (pv 0) (pa_cons (pe_op op_cat (pe_slice sl_list (pv 5) po_none (po_some (pv 4))) (pe_slice sl_list (pv 5) (po_some (pe_op op_add (pv 4) pe_int)) po_none)) pa_nil))) (pe_lst pa_nil) (nomark _))) (fun _ _ _ _ _ => (pv 4))) (pe_lst pa_nil) (nomark _)))))))))), ?_⟩
    have hts := (F.fc _ B).len
    have hfl := F.fl
    have hjd : js.Nodup := C.asc.imp Nat.ne_of_lt
    have hjl : js.length ≤ fs.length := by
      have := hjd.length_le_of_subset (l₂ := List.range fs.length) (fun j hj => List.mem_range.mpr (C.lt j hj))
      rwa [List.length_range] at this
    have hij : (ixs js).length = js.length := by unfold ixs; rw [List.length_map]
    repeat infer_instance
    refine s_isL (A _ B) ?_
    repeat infer_instance
    refine iteF ?_
    repeat infer_instance
    refine s_lenH (F.fc _ B).top ?_
    rw [List.length_map, hts]
    repeat infer_instance
    refine s_itR (by omega) (by omega) ?_
    rw [Int.toNat_natCast]
    refine s_lcR (fun i acc M => acc = (((List.range i).map fun j : Nat => Str.ofString (toString (j : Int))).map V.str) ∧ L = M) B ⟨rfl, rfl⟩ (fun _ => rfl) ?_ ?_
    · rintro Dc i acc M H hi ⟨rfl, rfl⟩ B
      repeat infer_instance
      refine iteT ?_
      repeat infer_instance
      refine s_repInt (by omega) ?_
      refine s_el B (by rw [List.length_map, List.length_map, List.length_range]; unfold sizeLine; omega) ⟨?_, rfl⟩
      rw [List.range_succ, List.map_append, List.map_append]; rfl
    rintro px acc M H ⟨rfl, rfl⟩ B
    repeat infer_instance
    refine s_itH (A _ B.tail) ?_
    refine s_lcL (fun i acc M => acc = [] ∧ M = .ob px (.lst (((List.range fs.length).map fun j : Nat => Str.ofString (toString (j : Int))).map V.str)) :: L) ((ixs js).map V.int) B ⟨rfl, rfl⟩ ?_ (fun _ => rfl) ?_ ?_
    · rintro k acc M H ⟨_, rfl⟩ B
      exact SqL.of (A _ B.tail)
    · rintro Dc k x acc M H hx ⟨rfl, rfl⟩ B
      unfold ixs at hx
      rw [List.getElem?_map, List.getElem?_map] at hx
      cases ej : js[k]? with
      | none => rw [ej] at hx; cases hx
      | some j =>
        rw [ej] at hx
        have hx : V.int (j : Int) = x := Option.some.inj hx
        subst hx
        have hj := C.lt j (List.mem_of_getElem? ej)
        repeat infer_instance
        refine s_repInt (by omega) ?_
        repeat infer_instance
        refine s_ninS (B.get px) (List.mem_map.mpr ⟨j, List.mem_range.mpr hj, rfl⟩) ?_
        refine ⟨_, rfl, ?_⟩
        refine iteF ?_
        exact NoEl.mk (M := .ob px (.lst (((List.range fs.length).map fun j : Nat => Str.ofString (toString (j : Int))).map V.str)) :: L) B ⟨rfl, rfl⟩
    rintro p1 acc M H ⟨rfl, rfl⟩ B
    repeat infer_instance
    refine s_newL B (Nat.zero_le _) fun p2 H B => ?_
    have e1 : H p1 = some (.lst (([] : List Int).map V.int)) := B.get p1
    have e2 : H p2 = some (.lst (([] : List Int).map V.int)) := B.get p2
    refine s_neDI e1 e2 ?_
    rw [decide_eq_true rfl]
    refine ⟨_, rfl, ?_⟩
    refine iteF ?_
    have B : Own H0 H T L := B.tail.tail.tail
    repeat infer_instance
    refine s_srtSet B (A _ B) (by omega) fun zs p3 H h1 h2 B => ?_
    have ez : zs = ixs js := srt_self h1 (by unfold ixs; rw [List.pairwise_map]; exact C.asc.imp fun z => by omega) h2
    subst ez
    repeat infer_instance
    refine s_neDI (B.get p3) (A _ B.tail) ?_
    rw [decide_eq_true rfl]
    repeat infer_instance
    refine iteF ?_
    have B := B.tail
    repeat infer_instance
    refine s_itH (A _ B) ?_
    refine s_lcL (fun k acc M => acc = (pk ts (js.take k)).map V.ref ∧ L = M) ((ixs js).map V.int) B ⟨rfl, rfl⟩ ?_ (fun _ => rfl) ?_ ?_
    · rintro k acc M H ⟨_, rfl⟩ B
      exact SqL.of (A _ B)
    · rintro Dc k x acc M H hx ⟨rfl, rfl⟩ B
      unfold ixs at hx
      rw [List.getElem?_map, List.getElem?_map] at hx
      cases ej : js[k]? with
      | none => rw [ej] at hx; cases hx
      | some j =>
        rw [ej] at hx
        have hx : V.int (j : Int) = x := Option.some.inj hx
        subst hx
        have hj := C.lt j (List.mem_of_getElem? ej)
        have et : ts[j]? = some (ts[j]'(by omega)) := List.getElem?_eq_getElem _
        repeat infer_instance
        refine iteT ?_
        repeat infer_instance
        refine s_ixH (F.fc _ B.tail).top (by rw [List.getElem?_map, et]; rfl) ?_
        refine s_el B ?_ ⟨?_, rfl⟩
        · rw [List.length_map]
          have h1 : (pk ts (js.take k)).length ≤ (js.take k).length := List.length_filterMap_le _ _
          have h2 := (List.take_sublist k js).length_le
          unfold sizeLine
          omega
        · rw [List.take_add_one, ej, pk_app, List.map_append]
          show _ = _ ++ (pk ts [j]).map V.ref
          rw [pk_one et]; rfl
    rintro ps acc M H ⟨rfl, rfl⟩ B
    have e9 : js.take ((ixs js).map V.int).length = js := List.take_of_length_le (by rw [List.length_map]; unfold ixs; rw [List.length_map]; exact Nat.le_refl _)
    rw [e9] at B
    have hpl : (pk ts js).length = js.length := pk_len fun j hj => by rw [hts]; exact C.lt j hj
    repeat infer_instance
    refine u_fitting B (F.pick C.lt (by omega)) h7 fun N pq rs H B G => ?_
    repeat infer_instance
    refine s_newL B (Nat.zero_le _) fun l H B => ?_
    refine s_neFA (fam2 := []) (qs2 := []) (G _ B.tail) ⟨B.get l, Rws.nil⟩ ?_
    rw [C.bad, show decide (([] : List (List Nat)).map nI = []) = true from rfl]
    repeat infer_instance
    refine iteF ?_
    have B := Own.offN B.tail
    repeat infer_instance
    rw [List.length_map, hpl]
    refine s_itR (by omega) (by omega) ?_
    rw [Int.toNat_natCast]
    refine s_lcR (fun i acc M => acc = [] ∧ M = .ob ps (.lst ((pk ts js).map V.ref)) :: L) B ⟨rfl, rfl⟩ (fun _ => rfl) ?_ ?_
    · rintro Dc i acc M H hi ⟨rfl, rfl⟩ B
      obtain ⟨j, ej⟩ : ∃ j, js[i]? = some j := ⟨js[i], List.getElem?_eq_getElem hi⟩
      have hcat : ((pk ts js).map V.ref).take i ++ ((pk ts js).map V.ref).drop (i + 1) = (pk ts (js.filter (· != j))).map V.ref := by
        rw [flt_at hjd ej, pk_split (fun j hj => by rw [hts]; exact C.lt j hj), List.map_append, List.map_take, List.map_drop]
      repeat infer_instance
      refine s_slL B (B.get ps) fun s1 H B => ?_
      rw [cut_to i] at B
      repeat infer_instance
      refine s_slL B (B.get ps) fun s2 H B => ?_
      have ei : (i : Int) + 1 = ((i + 1 : Nat) : Int) := by omega
      rw [ei, cut_fromM] at B
      repeat infer_instance
      refine s_cat B (B.get s1) (B.get s2) (by rw [List.length_take, List.length_drop, List.length_map]; unfold sizeLine; omega) fun cp H B => ?_
      rw [hcat] at B
      repeat infer_instance
      refine u_fitting B (F.more.more.more.more.pick (fun j hj => C.lt j (List.mem_filter.mp hj).1) (Nat.le_trans (List.length_filter_le ..) (by omega))) h7 fun N pq rs H B G => ?_
      repeat infer_instance
      refine s_newL B (Nat.zero_le _) fun l H B => ?_
      refine s_eqFA (fam2 := []) (qs2 := []) (G _ B.tail) ⟨B.get l, Rws.nil⟩ ?_
      have hmin := C.min j (List.mem_of_getElem? ej)
      rw [decide_eq_false fun z => hmin (List.map_eq_nil_iff.mp z)]
      repeat infer_instance
      refine iteF ?_
      have B := (Own.offN B.tail).tail.tail.tail
      exact NoEl.mk (M := .ob ps (.lst ((pk ts js).map V.ref)) :: L) B ⟨rfl, rfl⟩
    rintro pl acc M H ⟨rfl, rfl⟩ B
    repeat infer_instance
    refine s_newL B (Nat.zero_le _) fun l H B => ?_
    have e1 : H pl = some (.lst (([] : List Int).map V.int)) := B.get pl
    have e2 : H l = some (.lst (([] : List Int).map V.int)) := B.get l
    refine s_eqDI e1 e2 ?_
    rw [decide_eq_true rfl]
    exact q _ B.tail.tail.tail
end
end My
namespace My
open PySem PySem.Spec PyProof.Rows L2 LamX
local macro_rules | `(tactic| infer_instance) => `(tactic| first
  | with_reducible refine s_var (by with_unfolding_all exact rfl) ?_
  | with_reducible apply s_C
  | with_reducible apply s_op
  | with_reducible apply s_i0
  | with_reducible apply s_seq
  | with_reducible apply s_asg
  | with_reducible apply s_gn
  | with_reducible apply s_nil
  | with_reducible apply s_cons
  | with_reducible apply s_cb
  | with_reducible apply s_call
  | with_reducible apply s_un
  | with_reducible apply s_u
  | with_reducible apply s_test
  | with_reducible apply s_blV
  | with_reducible apply s_eqI
  | with_reducible apply s_neI
  | with_reducible apply s_ifs
  | with_reducible apply s_drop
  | with_reducible apply s_ret
  | with_reducible apply s_lst
  | with_reducible apply s_tup
  | with_reducible apply s_and
  | with_reducible apply s_or
  | with_reducible apply s_not
  | with_reducible apply s_tB
  | with_reducible apply s_bm
  | with_reducible apply s_bm0
  | with_reducible apply s_for
  | with_reducible apply s_iList
  | with_reducible apply s_iTup
  | with_reducible apply s_mndS
  | with_reducible apply s_srtS
  | with_reducible apply s_lc2S
  | with_reducible apply s_remS
  | with_reducible apply s_iRng
  | with_reducible apply s_iEnum
  | with_reducible apply s_iRng3
  | with_reducible apply s_iZip
  | with_reducible apply s_iZip3
  | with_reducible apply s_iRev
  | with_reducible apply s_get2S
  | with_reducible apply s_iEZ
  | with_reducible apply s_sl
  | with_reducible apply s_noPart
  | with_reducible apply s_part
  | with_reducible apply s_partI
  | with_reducible apply s_neS
  | with_reducible apply s_eqS
  | with_reducible apply s_lc
  | with_reducible apply s_dc
  | with_reducible apply s_dg
  | with_reducible apply s_di
  | with_reducible apply s_dni
  | with_reducible apply s_yes
  | with_reducible apply s_chain
  | with_reducible refine s_aug (by with_unfolding_all exact rfl) ?_
  | with_reducible apply s_ip
  | with_reducible apply s_revL
  | with_reducible apply s_gsub
  | with_reducible apply s_gslc
  | with_reducible apply s_parS
  | with_reducible apply s_par
  | with_reducible apply s_gc
  | with_reducible apply s_gnil
  | with_reducible apply s_brk
  | with_reducible apply s_cnt
  | with_reducible apply s_next
  | with_reducible apply s_andV
  | with_reducible apply s_orV
  | with_reducible apply s_notV
  | with_reducible apply s_isB
  | with_reducible apply s_notB
  | with_reducible apply s_max2
  | with_reducible apply s_min2
  | with_reducible apply s_abs
  | with_reducible apply s_intB
  | (with_reducible refine s_len (by assumption) ?_)
  | (with_reducible refine s_lenF (by assumption) ?_)
  | (with_reducible refine s_ty (by assumption) ?_)
  | (with_reducible refine s_tyF (by assumption) ?_)
  | (with_reducible refine s_i (by first | decide | exact cpow_ok (by decide) (by decide) (by decide) | exact cdivw (by decide) (by decide) | exact cmul_l (by decide) (by decide) | exact cmul_r (by decide) (by decide) | omega | exact cmul_l (by omega) (by omega) | exact cmul_r (by omega) (by omega)) ?_))

def rListDk : List V → Hp → VK → Prop := fun xs H Q => ∃ (a : Addr) (kvs : List (Key × V)), xs = [.ref a] ∧ Rd H a (.dK kvs) ∧ ∀ p, H p = none → Q (.ref p) (upd H p (.lst (kvs.map fun kv => kV kv.1)))
theorem cr_listDk {X : Cx} (hc : X.calm = true) : CallR X (.type "list") rListDk := call_listD hc
abbrev nLawGroup : List Str := ["result", "facts", "home", "block", "number", "side", "kind", "one", "other", "left", "right", "turn", "place"]
theorem scLawGroup : FnScope nLawGroup ["result", "facts"] (defScope sLawGroup) := ⟨rfl, rfl, rfl, by decide +kernel, rfl, by decide +kernel, by decide +kernel⟩

section
variable {N : Nat} {cs : List Lk} {l : Nat → Nat} {s : Nat → Bool} {u v : Nat} {a : Bool}
/-- groups of nodes, as the law keeps them -/
structure UG (N : Nat) (cs : List Lk) (l : Nat → Nat) (s : Nat → Bool) : Prop where
  lt : ∀ n, n < N → l n < N
  top : ∀ n, n < N → l (l n) = l n
  s0 : ∀ n, n < N → s (l n) = false
  iff : ∀ q : Nat → Bool, sat q cs ↔ ∀ n, n < N → q n = (q (l n) ^^ s n)
theorem UG.start (N : Nat) : UG N [] (fun n => n) (fun _ => false) :=
  ⟨fun _ h => h, fun _ _ => rfl, fun _ _ => rfl, fun q => ⟨fun _ n _ => by simp, fun _ c hc => nomatch hc⟩⟩
theorem UG.link (U : UG N cs l s) (hu : u < N) (hv : v < N) {q : Nat → Bool} (h : sat q cs) : ((q u ^^ q v) = a) ↔ ((q (l u) ^^ q (l v)) = (s u ^^ s v ^^ a)) := by
  have e1 := (U.iff q).mp h u hu
  have e2 := (U.iff q).mp h v hv
  rw [e1, e2]
  cases q (l u) <;> cases q (l v) <;> cases s u <;> cases s v <;> cases a <;> decide
theorem UG.skip (U : UG N cs l s) (hu : u < N) (hv : v < N) (e : l u = l v) (t : (s u ^^ s v ^^ a) = false) : UG N (cs ++ [(u, v, a)]) l s := by
  refine ⟨U.lt, U.top, U.s0, fun q => ?_⟩
  rw [sat_snoc, ← U.iff q]
  refine ⟨fun h => h.1, fun h => ⟨h, (U.link hu hv h).mpr ?_⟩⟩
  rw [e, t]
  cases q (l v) <;> rfl
theorem UG.bad (U : UG N cs l s) (hu : u < N) (hv : v < N) (e : l u = l v) (t : (s u ^^ s v ^^ a) = true) (q : Nat → Bool) : ¬ sat q (cs ++ [(u, v, a)]) := fun h => by
  rw [sat_snoc] at h
  have := (U.link hu hv h.1).mp h.2
  rw [e, t] at this
  cases z : q (l v) <;> rw [z] at this <;> cases this
theorem UG.join (U : UG N cs l s) (hu : u < N) (hv : v < N) {kp dr : Nat} (ne : ¬ kp = dr) (e : (l u = kp ∧ l v = dr) ∨ (l u = dr ∧ l v = kp)) :
    UG N (cs ++ [(u, v, a)]) (fun n => if l n = dr then kp else l n) (fun n => if l n = dr then s n ^^ (s u ^^ s v ^^ a) else s n) := by
  obtain ⟨k1, d1, k2, d2, k3, d3⟩ : kp < N ∧ dr < N ∧ l kp = kp ∧ l dr = dr ∧ s kp = false ∧ s dr = false := by
    have a1 := U.lt u hu
    have a2 := U.lt v hv
    have b1 := U.top u hu
    have b2 := U.top v hv
    have c1 := U.s0 u hu
    have c2 := U.s0 v hv
    rcases e with ⟨h1, h2⟩ | ⟨h1, h2⟩
    · rw [h1] at a1 b1 c1; rw [h2] at a2 b2 c2
      exact ⟨a1, a2, b1, b2, c1, c2⟩
    · rw [h1] at a1 b1 c1; rw [h2] at a2 b2 c2
      exact ⟨a2, a1, b2, b1, c2, c1⟩
  refine ⟨fun n hn => ?_, fun n hn => ?_, fun n hn => ?_, fun q => ?_⟩
  · have := U.lt n hn
    by_cases z : l n = dr
    · rw [if_pos z]; exact k1
    · rw [if_neg z]; exact this
  · show (if l (if l n = dr then kp else l n) = dr then kp else l (if l n = dr then kp else l n)) = (if l n = dr then kp else l n)
    by_cases z : l n = dr
    · rw [if_pos z, k2, if_neg ne]
    · rw [if_neg z, U.top n hn, if_neg z]
  · show (if l (if l n = dr then kp else l n) = dr then s (if l n = dr then kp else l n) ^^ (s u ^^ s v ^^ a) else s (if l n = dr then kp else l n)) = false
    by_cases z : l n = dr
    · rw [if_pos z, k2, if_neg ne, k3]
    · rw [if_neg z, U.top n hn, if_neg z, U.s0 n hn]
  · show sat q (cs ++ [(u, v, a)]) ↔ ∀ n, n < N → q n = (q (if l n = dr then kp else l n) ^^ (if l n = dr then s n ^^ (s u ^^ s v ^^ a) else s n))
    have key : (q (l u) ^^ q (l v)) = (s u ^^ s v ^^ a) ↔ q dr = (q kp ^^ (s u ^^ s v ^^ a)) := by
      rcases e with ⟨h1, h2⟩ | ⟨h1, h2⟩ <;> rw [h1, h2] <;> cases q kp <;> cases q dr <;> cases (s u ^^ s v ^^ a) <;> decide
    rw [sat_snoc]
    constructor
    · rintro ⟨h1, h2⟩ n hn
      have h3 := key.mp ((U.link hu hv h1).mp h2)
      have h4 := (U.iff q).mp h1 n hn
      by_cases z : l n = dr
      · rw [if_pos z, if_pos z, h4, z, h3]
        cases q kp <;> cases s n <;> cases (s u ^^ s v ^^ a) <;> decide
      · rw [if_neg z, if_neg z]; exact h4
    · intro h
      have h3 : q dr = (q kp ^^ (s u ^^ s v ^^ a)) := by
        have := h dr d1
        rw [d2, if_pos rfl, if_pos rfl, d3] at this
        rw [this]
        cases q kp <;> cases (s u ^^ s v ^^ a) <;> decide
      have h1 : sat q cs := (U.iff q).mpr fun n hn => by
        have h4 := h n hn
        by_cases z : l n = dr
        · rw [if_pos z, if_pos z] at h4
          rw [h4, z, h3]
          cases q kp <;> cases s n <;> cases (s u ^^ s v ^^ a) <;> decide
        · rw [if_neg z, if_neg z] at h4; exact h4
      exact ⟨h1, (U.link hu hv h1).mpr (key.mpr h3)⟩
theorem UG.some (U : UG N cs l s) : sat s cs := (U.iff s).mpr fun n hn => by rw [U.s0 n hn, Bool.false_xor]
end
/-- the key of a node: the head of its block, or "start" -/
def kN (hs : List Int) : Nat → Key
  | 0 => .inr "start"
  | n + 1 => .inl (hs.getD n 0)
theorem kN_inj {hs : List Int} (nd : hs.Nodup) {n m : Nat} (hn : n ≤ hs.length) (hm : m ≤ hs.length) (e : kN hs n = kN hs m) : n = m := by
  cases n with
  | zero =>
    cases m with
    | zero => rfl
    | succ m => cases e
  | succ n =>
    cases m with
    | zero => cases e
    | succ m =>
      injection e with e
      rw [List.getD_eq_getElem?_getD, List.getD_eq_getElem?_getD, List.getElem?_eq_getElem (by omega), List.getElem?_eq_getElem (by omega)] at e
      have := (List.getElem_inj nd).mp e
      omega
theorem kV_inj {k j : Key} (e : kV k = kV j) : k = j := by
  cases k <;> cases j <;> first | (injection e with e; rw [e]) | cases e
theorem scal_k (k j : Key) : scal (kV k) (kV j) = true := by cases k <;> cases j <;> rfl
theorem putK_old {kvs : List (Key × V)} {k : Key} (v : V) (h : valV kvs k ≠ none) : (putK kvs k v).length = kvs.length := by
  unfold putK
  rw [if_pos (by rw [valV_any]; exact Option.isSome_iff_ne_none.mpr h), List.length_map]
theorem key_mem {kvs : List (Key × V)} {k : Key} : k ∈ kvs.map (·.1) ↔ valV kvs k ≠ none := by
  rw [← Option.isSome_iff_ne_none, ← valV_any, List.any_eq_true, List.mem_map]
  constructor
  · rintro ⟨x, hx, e⟩; exact ⟨x, hx, decide_eq_true e⟩
  · rintro ⟨x, hx, e⟩; exact ⟨x, hx, of_decide_eq_true e⟩
theorem ite_eq_of {p q : Prop} [Decidable p] [Decidable q] {α : Type} {x y : α} (h : p ↔ q) : (if p then x else y) = if q then x else y := by
  by_cases hp : p
  · rw [if_pos hp, if_pos (h.mp hp)]
  · rw [if_neg hp, if_neg fun z => hp (h.mpr z)]
theorem ite_eq_tk {p q : Prop} [Decidable p] [Decidable q] {α : Type} {x y : α} (h : p ↔ q) : (if p then x else y) = if q then x else y := ite_eq_of h
theorem valV_at : ∀ {kvs : List (Key × V)} {j : Nat} {k : Key} {v : V}, (kvs.map (·.1)).Nodup → kvs[j]? = some (k, v) → valV kvs k = some v
  | [], j, _, _, _, h => by simp at h
  | p :: r, 0, k, v, _, h => by
    cases h
    exact valV_pos rfl
  | p :: r, j + 1, k, v, nd, h => by
    obtain ⟨n1, n2⟩ := List.nodup_cons.mp nd
    have h : r[j]? = some (k, v) := h
    rw [valV_neg fun e => n1 (by show p.1 ∈ _; rw [e]; exact List.mem_map.mpr ⟨(k, v), List.mem_of_getElem? h, rfl⟩)]
    exact valV_at n2 h
/-- the heads of the blocks -/
def hsF (ns : List Int) : List Int := (cut ns).map fun b => b.headD 0
theorem hsF_at {ns : List Int} {i : Nat} {f : List Int} (h : (cut ns)[i]? = some f) : (hsF ns).getD i 0 = f.headD 0 := by
  unfold hsF
  rw [List.getD_eq_getElem?_getD, List.getElem?_map, h]
  rfl
theorem hsF_nd {ns : List Int} : (hsF ns).Nodup := by
  unfold hsF
  have := (cut_facts ns.length ns (Nat.le_refl _)).1
  rw [List.nodup_iff_pairwise_ne, List.pairwise_map]
  refine this.imp fun {x y} h e => ?_
  unfold hd at h
  omega
/-- the law's table: for each node its group and its side -/
structure SideT (kvs : List (Key × V)) (G : List Cell) (b : Nat) (hs : List Int) (l : Nat → Nat) (s : Nat → Bool) : Prop where
  at' : ∀ n, n ≤ b → ∃ t, valV kvs (kN hs n) = some (.ref t) ∧ Cell.ob t (.tup [kV (kN hs (l n)), .int (bitN (s n) : Nat)]) ∈ G
  only : ∀ k, valV kvs k ≠ none → ∃ n, n ≤ b ∧ k = kN hs n
theorem SideT.congr {kvs : List (Key × V)} {G : List Cell} {b : Nat} {hs : List Int} {l l' : Nat → Nat} {s s' : Nat → Bool} (S : SideT kvs G b hs l s) (h : ∀ n, n ≤ b → l n = l' n ∧ s n = s' n) : SideT kvs G b hs l' s' :=
  ⟨fun n hn => by obtain ⟨t, h1, h2⟩ := S.at' n hn; obtain ⟨e1, e2⟩ := h n hn; rw [e1, e2] at h2; exact ⟨t, h1, h2⟩, S.only⟩
theorem SideT.put {kvs : List (Key × V)} {G : List Cell} {b : Nat} {hs : List Int} {l l' : Nat → Nat} {s s' : Nat → Bool} (S : SideT kvs G b hs l s) (nd : hs.Nodup) (hb : b = hs.length) {m : Nat} (hm : m ≤ b) {t : Addr} (h : ∀ n, n ≤ b → n ≠ m → l n = l' n ∧ s n = s' n) :
    SideT (putK kvs (kN hs m) (.ref t)) (.ob t (.tup [kV (kN hs (l' m)), .int (bitN (s' m) : Nat)]) :: G) b hs l' s' := by
  refine ⟨fun n hn => ?_, fun k hk => ?_⟩
  · by_cases e : n = m
    · subst e
      exact ⟨t, by rw [valV_put, if_pos rfl], List.mem_cons_self ..⟩
    · obtain ⟨t2, h1, h2⟩ := S.at' n hn
      obtain ⟨e1, e2⟩ := h n hn e
      rw [e1, e2] at h2
      exact ⟨t2, by rw [valV_put, if_neg fun z => e (kN_inj nd (by omega) (by omega) z)]; exact h1, List.mem_cons_of_mem _ h2⟩
  · rw [valV_put] at hk
    by_cases e : k = kN hs m
    · exact ⟨m, hm, e⟩
    · rw [if_neg e] at hk
      exact S.only k hk
section
variable {K : PySem.W.Frag} {H0 H : Hp} {T : List (Addr × Str)} {L L' : List Cell} {a : Addr} {kvs : List (Key × V)} {v : V} {Q : VK}
theorem s_dgetK {k : Key} {x : V} (ex : x = kV k) (h : H a = some (.dK kvs)) (e : valV kvs k = some v) (q : Q v H) : GetAt (.ref a) x H Q := by
  subst ex
  exact ⟨a, v, rfl, by rw [← e]; exact DGet.k (k := k) h, q⟩
theorem s_setDK {Qh : Hp → Prop} {k : Key} {x : V} (ex : x = kV k) (B : Own H0 H T L) [P : Pull L a (.ob a (.dK kvs)) L'] (h : kvs.length < sizeLine) (q : ∀ H', Own H0 H' T (.ob a (.dK (putK kvs k v)) :: L') → Qh H') : rSetD (.ref a) x v H Qh := by
  subst ex
  exact ⟨a, _, rfl, .inl ⟨kvs, k, B.get a, rfl, h, rfl⟩, q _ ((B.pull a).wr trivial)⟩
theorem s_listDk (B : Own H0 H T L) (h : H a = some (.dK kvs)) (q : ∀ p H', Own H0 H' T (.ob p (.lst ((kvs.map (·.1)).map kV)) :: L) → Q (.ref p) H') : rListDk [.ref a] H Q := by
  refine ⟨a, kvs, rfl, .inl h, fun p n => ?_⟩
  have := q p _ (B.new (o := .lst ((kvs.map (·.1)).map kV)) n trivial)
  rw [List.map_map] at this
  exact this
theorem s_keyO {te : TE} {sg : L2.St} (P : V → Hp → Prop) (h : ∀ Q' : VK, (∀ v H', P v H' → Q' v H') → te sg H Q') (k : ∀ v H', P v H' → Q v H') : te sg H Q := h Q k
theorem s_keySO {st : TS} {D : Ends} {sg : L2.St} (P : L2.St → Hp → Prop) (h : ∀ nx' : L2.St → Hp → Prop, (∀ σ' H', P σ' H' → nx' σ' H') → st { D with nx := nx' } sg H) (k : ∀ σ' H', P σ' H' → D.nx σ' H') : st D sg H := h D.nx k
theorem s_markO {r : R2} {ta tb : TE} {sg : L2.St} (k : tOp r ta tb sg H Q) : tOp r ta tb sg H Q := k
theorem s_eqKK {x y : V} {k j : Key} (ex : x = kV k) (ey : y = kV j) (q : Q (.bl (decide (k = j))) H) : rEq x y H Q := by
  subst ex ey
  refine ⟨scal_k k j, ?_⟩
  have : decide (kV k = kV j) = decide (k = j) := by
    rw [Bool.eq_iff_iff, decide_eq_true_iff, decide_eq_true_iff]
    exact ⟨kV_inj, fun e => by rw [e]⟩
  rw [this]
  exact q
end
section
variable {P : Program} {w : World} {K : PySem.W.Frag} {mg : Str → Option Value} {base : Heap}
def spLawGroup : Sp := fun vs H Q _ => ∃ (H0 : Hp) (T : List (Addr × Str)) (L : List Cell) (a b : Addr) (ns : List Int) (ts : List Addr) (fs : List Fc), vs = [.ref a, .ref b] ∧ Own H0 H T L ∧ FactsAt H0 T L a ns b ts fs ∧
  (dueF ns fs = [] → ∀ H', Own H0 H' T L → Q .non H') ∧ (dueF ns fs ≠ [] → ∀ d H', Own H0 H' T L → Q (.ref d) H')
theorem u_group {H0 H : Hp} {T : List (Addr × Str)} {L : List Cell} {a b : Addr} {ns : List Int} {ts : List Addr} {fs : List Fc} {Q : VK} {E : XK} (B : Own H0 H T L) (F : FactsAt H0 T L a ns b ts fs)
  (k0 : dueF ns fs = [] → ∀ H', Own H0 H' T L → Q .non H') (k1 : dueF ns fs ≠ [] → ∀ d H', Own H0 H' T L → Q (.ref d) H') : spLawGroup [.ref a, .ref b] H Q E := ⟨_, _, _, _, _, _, _, _, rfl, B, F, k0, k1⟩
set_option maxHeartbeats 0 in
theorem ok_LawGroup {f : Addr} {fd : FuncData} {k : Nat} (F : Fun K "_law_group" "_law_group" sLawGroup f fd) (Tx : Txt mg) (C__law_blocks : Cal P w K mg base k "_law_blocks" ["numbers"] spLawBlocks) : FnOk P w K mg base CX0 (k + 1) f fd ["result", "facts"] spLawGroup := by
  refine F.ok scLawGroup (fun vs H Q E h => ?_) (fun cdv A outer s H vs Q E hr h => ?_)
  · obtain ⟨_, _, _, a, b, ns, ts, fs, rfl, _⟩ := h
    rfl
  · obtain ⟨H0, T, L, a, b, ns, ts, fs, rfl, B, F, q0, q1⟩ := h
    refine ⟨_, (pss_cons (ps_set (i := 2) scLawGroup.nd rfl (.inl rfl) pe_dnewK)
 (pss_cons (ps_for PassesOwn.never rfl (pi_list (pe_cal C__law_blocks hr (by rfl) (pa_cons (pv 0) pa_nil))) (pg_name (i := 3) scLawGroup.nd rfl (Or.inl rfl))
  (pss_one (ps_for PassesOwn.never rfl (pi_list (pv 3)) (pg_name (i := 4) scLawGroup.nd rfl (Or.inl rfl))
  (pss_one (ps_asg (pe_ix ix_list (pv 3) pe_int (fun _ _ => rfl)) (pg_sub (pv 2) (pv 4) (set_dict (hu1_of hr))))))))
 (pss_cons (ps_set (i := 5) scLawGroup.nd rfl (.inl rfl) (pe_callTy (cr_dictP (by rfl)) (by rfl) Tx.dict (by decide +kernel) (pa_cons (pe_lc (te := (tTup (tCons (tOp (rIxL K) (tVar 3) (tC (.int 0))) (tCons (tTup (tCons (tOp (rIxL K) (tVar 3) (tC (.int 0))) (tCons (tC (.int 0)) tNil))) tNil)))) (tt := tYes) (own := [("block", 3)]) (g := (gName 3)) (by rfl) scLawGroup.nd (pi_list (pe_cal C__law_blocks hr (by rfl) (pa_cons (pv 0) pa_nil))) (blkOk_by (own := [("block", 3)]) (N := nLawGroup) (sc := defScope sLawGroup) (by decide +kernel)) (fun _ _ _ _ _ => (pg_name (i := 3) scLawGroup.nd rfl (Or.inl rfl))) (fun _ _ _ _ _ => pts_nil) (fun _ _ _ _ _ => (pe_tup (pa_cons (pe_ix ix_list (pv 3) pe_int (fun _ _ => rfl)) (pa_cons (pe_tup (pa_cons (pe_ix ix_list (pv 3) pe_int (fun _ _ => rfl)) (pa_cons pe_int pa_nil))) pa_nil))))) pa_nil)))
 (pss_cons (ps_asg (pe_tup (pa_cons pe_str (pa_cons pe_int pa_nil))) (pg_sub (pv 5) pe_str (set_dict (hu1_of hr))))
 (pss_cons (ps_for PassesOwn.never rfl (pi_list (pv 1)) (pg_tup (by rfl) (pgs_cons (pg_name (i := 6) scLawGroup.nd rfl (Or.inl rfl)) (pgs_cons (pg_name (i := 7) scLawGroup.nd rfl (Or.inl rfl)) (pgs_cons (pg_name (i := 8) scLawGroup.nd rfl (Or.inl rfl)) pgs_nil))))
  (pss_cons (ps_par (i := 9) (j := 10) (by rfl) scLawGroup.nd rfl rfl (by decide) rfl rfl (pa_cons (pe_dget (hu1_of hr) (pv 5) (pe_dget (hu1_of hr) (pv 2) (pv 7) (fun _ _ => rfl)) (fun _ _ => rfl)) (pa_cons (pe_dget (hu1_of hr) (pv 5) (pe_ifExp (pt_cmpR op_eq (pv 6) pe_str (by rfl)) pe_str (pe_dget (hu1_of hr) (pv 2) (pv 8) (fun _ _ => rfl))) (fun _ _ => rfl)) pa_nil)) (by rfl))
 (pss_cons (ps_set (i := 11) scLawGroup.nd rfl (.inl rfl) (pe_op op_mod (pe_op op_add (pe_op op_add (pe_ix ix_tup (pv 9) pe_int (fun _ _ => rfl)) (pe_ix ix_tup (pv 10) pe_int (fun _ _ => rfl))) (pe_ifExp (pt_cmpR op_eq (pv 6) pe_str (by rfl)) (pv 8) (pe_callTy (cl_int) (by rfl) Tx.int (by decide +kernel) (pa_cons (pe_cmpR op_eq (pv 6) pe_str (by rfl)) pa_nil)))) pe_int))
 (pss_cons (ps_if (pt_cmpR op_eq (pe_ix ix_tup (pv 9) pe_int (fun _ _ => rfl)) pe_str (by rfl))
  (pss_one (ps_par (i := 9) (j := 10) (by rfl) scLawGroup.nd rfl rfl (by decide) rfl rfl (pa_cons (pv 10) (pa_cons (pv 9) pa_nil)) (by rfl))) pss_nil)
 (pss_one (ps_if (pt_cmpR op_eq (pe_ix ix_tup (pv 9) pe_int (fun _ _ => rfl)) (pe_ix ix_tup (pv 10) pe_int (fun _ _ => rfl)) (nomark _))
  (pss_one (ps_if (pt_cmpR op_eq (pv 11) pe_int (by rfl))
  (pss_one (ps_ret pe_non)) pss_nil)) (pss_one (ps_for PassesOwn.never rfl (pi_list (pe_callTy ((cr_listDk (by rfl))) (by rfl) Tx.list (by decide +kernel) (pa_cons (pv 5) pa_nil))) (pg_name (i := 12) scLawGroup.nd rfl (Or.inl rfl))
  (pss_one (ps_if (pt_cmpR op_eq (pe_ix ix_tup (pe_dget (hu1_of hr) (pv 5) (pv 12) (fun _ _ => rfl)) pe_int (fun _ _ => rfl)) (pe_ix ix_tup (pv 9) pe_int (fun _ _ => rfl)) (nomark _))
  (pss_one (ps_asg (pe_tup (pa_cons (pe_ix ix_tup (pv 10) pe_int (fun _ _ => rfl)) (pa_cons (pe_op op_mod (pe_op op_add (pe_ix ix_tup (pe_dget (hu1_of hr) (pv 5) (pv 12) (fun _ _ => rfl)) pe_int (fun _ _ => rfl)) (pv 11)) pe_int) pa_nil))) (pg_sub (pv 5) (pv 12) (set_dict (hu1_of hr))))) pss_nil))))))))))
 (pss_one (ps_ret (pv 5)))))))), ?_⟩
    have hnl := F.nl
    have hts := (F.fc _ B).len
    have fl := (good_cut ns).flat
    have hcl := (good_cut ns).len
    repeat infer_instance
    refine s_dnew B fun hm H B => ?_
    repeat infer_instance
    refine u_cblocks B (fun H' B' => F.nu H' B'.tail) F.nd hnl fun pb qb H B => ?_
    have hqb := B.lenF pb
    have hne : ∀ {i : Nat} {f : List Int}, (cut ns)[i]? = some f → f ≠ [] := fun h => (cut_mem (List.mem_of_getElem? h)).1
    repeat infer_instance
    refine s_itH (B.getF pb) ?_
    refine s_forL (fun k σ M => ∃ (kvs : List (Key × V)) (y3 y4 : Option V), σ = [some (.ref a), some (.ref b), some (.ref hm), y3, y4, none, none, none, none, none, none, none, none] ∧ kvs.length ≤ ((cut ns).take k).flatten.length ∧ (∀ x ∈ ((cut ns).take k).flatten, valV kvs (.inl x) = some (kV (kN (hsF ns) (ndF ns x)))) ∧ M = .ob hm (.dK kvs) :: .fm pb qb (vv (cut ns)) :: L) (qb.map V.ref) (show Own H0 H T (.ob hm (.dK []) :: .fm pb qb (vv (cut ns)) :: L) from B.arr) ⟨[], none, none, rfl, Nat.zero_le _, (fun x h => nomatch h), rfl⟩ ?_ ?_ ?_
    · rintro k σ M H ⟨_, _, _, _, _, _, rfl⟩ B
      exact SqL.of (B.getF pb)
    · rintro k x σ M H hx ⟨kvs, y3, y4, rfl, hk, hv, rfl⟩ B
      rw [List.getElem?_map] at hx
      obtain ⟨qk, hqk, rfl⟩ := Option.map_eq_some_iff.mp hx
      have hkl : k < (cut ns).length := by rw [← hqb]; exact (List.getElem?_eq_some_iff.mp hqk).1
      have ef : (cut ns)[k]? = some (cut ns)[k] := List.getElem?_eq_getElem hkl
      generalize (cut ns)[k] = f at ef
      have hf0 := hne ef
      obtain ⟨h0, fr, rfl⟩ := List.exists_cons_of_ne_nil hf0
      have tk : ((cut ns).take (k + 1)).flatten = ((cut ns).take k).flatten ++ (h0 :: fr) := by rw [List.take_add_one, ef, List.flatten_append]; simp
      have tl : ((cut ns).take (k + 1)).flatten.length ≤ ns.length := by
        have h2 : ns.length = ((cut ns).take (k + 1)).flatten.length + ((cut ns).drop (k + 1)).flatten.length := by
          rw [← List.length_append, ← List.flatten_append, List.take_append_drop, fl]
        omega
      have tl2 : ((cut ns).take k).flatten.length + (h0 :: fr).length ≤ ns.length := by rw [tk, List.length_append] at tl; exact tl
      have hqv : ∀ x ∈ h0 :: fr, kV (kN (hsF ns) (ndF ns x)) = .int h0 := fun x hx => by
        rw [nd_at F.nd ef hx]
        show V.int ((hsF ns).getD k 0) = _
        rw [hsF_at ef]
        rfl
      repeat infer_instance
      refine s_itH (B.rowAt pb hqk (vv_get ef)) ?_
      refine s_forL (fun m σ M => ∃ (kvs : List (Key × V)) (y4 : Option V), σ = [some (.ref a), some (.ref b), some (.ref hm), some (.ref qk), y4, none, none, none, none, none, none, none, none] ∧ kvs.length ≤ ((cut ns).take k).flatten.length + m ∧ (∀ x ∈ ((cut ns).take k).flatten ++ (h0 :: fr).take m, valV kvs (.inl x) = some (kV (kN (hsF ns) (ndF ns x)))) ∧ M = .ob hm (.dK kvs) :: .fm pb qb (vv (cut ns)) :: L) ((h0 :: fr).map V.int) B ⟨kvs, y4, rfl, hk, (by rw [List.take_zero, List.append_nil]; exact hv), rfl⟩ ?_ ?_ ?_
      · rintro m σ M H ⟨_, _, _, _, _, rfl⟩ B
        exact SqL.of (B.rowAt pb hqk (vv_get ef))
      · rintro m x σ M H hx ⟨kvs, y4, rfl, hk, hv, rfl⟩ B
        rw [List.getElem?_map] at hx
        obtain ⟨z, hz2, rfl⟩ := Option.map_eq_some_iff.mp hx
        have hmf : m < (h0 :: fr).length := (List.getElem?_eq_some_iff.mp hz2).1
        repeat infer_instance
        refine s_ixS (SqL.of (B.rowAt pb hqk (vv_get ef))) (show atI ((h0 :: fr).map V.int) 0 = some (.int h0) from atI_nat (j := 0) rfl) ?_
        repeat infer_instance
        refine s_setDK (k := .inl z) rfl B (by unfold sizeLine; omega) fun H B => ?_
        refine s_inn B ⟨putK kvs (.inl z) (.int h0), some (.int z), rfl, ?_, fun x hx => ?_, rfl⟩
        · have := length_putK kvs (.inl z) (.int h0)
          omega
        · rw [valP]
          by_cases e : x = z
          · rw [if_pos e, e, hqv z (List.mem_of_getElem? hz2)]
          · rw [if_neg e]
            rw [List.take_add_one, hz2, ← List.append_assoc] at hx
            rcases List.mem_append.mp hx with h | h
            · exact hv x h
            · exact absurd (List.mem_singleton.mp h) e
      · rintro σ M H ⟨kvs, y4, rfl, hk, hv, rfl⟩ B
        rw [List.length_map] at hk hv
        rw [List.take_length, ← tk] at hv
        repeat infer_instance
        exact s_inn B ⟨kvs, _, _, rfl, (by rw [tk, List.length_append]; exact hk), hv, rfl⟩
    rintro σ M H ⟨hkv, y3, y4, rfl, _, hv, rfl⟩ B
    rw [List.length_map, hqb, List.take_length, fl] at hv
    have B : Own H0 H T (.ob hm (.dK hkv) :: L) := B.arr
    repeat infer_instance
    refine u_cblocks B (fun H' B' => F.nu H' B'.tail) F.nd hnl fun p2 q2 H B => ?_
    have hq2 := B.lenF p2
    repeat infer_instance
    refine s_itH (B.getF p2) ?_
    refine s_lcL (fun k acc M => ∃ zs : List (Addr × Addr × Int), acc = zs.map (fun z => V.ref z.1) ∧ zs.map (fun z => z.2.2) = (hsF ns).take k ∧ M = (zs.flatMap fun z => [Cell.ob z.1 (.tup [.int z.2.2, .ref z.2.1]), Cell.ob z.2.1 (.tup [.int z.2.2, .int 0])]) ++ (.fm p2 q2 (vv (cut ns)) :: .ob hm (.dK hkv) :: L)) (q2.map V.ref) B ⟨[], rfl, rfl, rfl⟩ ?_ (fun _ => rfl) ?_ ?_
    · rintro k acc M H ⟨_, _, _, rfl⟩ B
      exact SqL.of ((Own.offN B).getF p2)
    · rintro Dc k x acc M H hx ⟨zs, rfl, hz, rfl⟩ B
      rw [List.getElem?_map] at hx
      obtain ⟨qk, hqk, rfl⟩ := Option.map_eq_some_iff.mp hx
      have hkl : k < (cut ns).length := by rw [← hq2]; exact (List.getElem?_eq_some_iff.mp hqk).1
      have ef : (cut ns)[k]? = some (cut ns)[k] := List.getElem?_eq_getElem hkl
      generalize (cut ns)[k] = f at ef
      have hf0 := hne ef
      obtain ⟨h0, fr, rfl⟩ := List.exists_cons_of_ne_nil hf0
      have hzl := congrArg List.length hz
      rw [List.length_map, List.length_take] at hzl
      have hr := fun {c : List Cell} {H'} (B' : Own H0 H' T (c ++ ((zs.flatMap fun z => [Cell.ob z.1 (.tup [.int z.2.2, .ref z.2.1]), Cell.ob z.2.1 (.tup [.int z.2.2, .int 0])]) ++ (.fm p2 q2 (vv (cut ns)) :: .ob hm (.dK hkv) :: L)))) => (Own.offN (Own.offN B')).rowAt p2 hqk (vv_get ef)
      repeat infer_instance
      refine iteT ?_
      repeat infer_instance
      refine s_ixS (SqL.of (hr (c := [_]) B)) (show atI ((h0 :: fr).map V.int) 0 = some (.int h0) from atI_nat (j := 0) rfl) ?_
      repeat infer_instance
      refine s_ixS (SqL.of (hr (c := [_]) B)) (show atI ((h0 :: fr).map V.int) 0 = some (.int h0) from atI_nat (j := 0) rfl) ?_
      repeat infer_instance
      refine s_newT B (show 2 ≤ sizeLine by decide) fun t1 H B => ?_
      repeat infer_instance
      refine s_newT B (show 2 ≤ sizeLine by decide) fun u1 H B => ?_
      repeat infer_instance
      have B1 : Own H0 H T (.ob Dc (.lst (zs.map fun z => V.ref z.1)) :: .ob u1 (.tup [.int h0, .ref t1]) :: .ob t1 (.tup [.int h0, .int 0]) :: ((zs.flatMap fun z => [Cell.ob z.1 (.tup [.int z.2.2, .ref z.2.1]), Cell.ob z.2.1 (.tup [.int z.2.2, .int 0])]) ++ (.fm p2 q2 (vv (cut ns)) :: .ob hm (.dK hkv) :: L))) := B.arr
      have ec : ((zs ++ [(u1, t1, h0)]).flatMap fun z => [Cell.ob z.1 (.tup [.int z.2.2, .ref z.2.1]), Cell.ob z.2.1 (.tup [.int z.2.2, .int 0])]) ++ (.fm p2 q2 (vv (cut ns)) :: .ob hm (.dK hkv) :: L) = (zs.flatMap fun z => [Cell.ob z.1 (.tup [.int z.2.2, .ref z.2.1]), Cell.ob z.2.1 (.tup [.int z.2.2, .int 0])]) ++ (.ob u1 (.tup [.int h0, .ref t1]) :: .ob t1 (.tup [.int h0, .int 0]) :: .fm p2 q2 (vv (cut ns)) :: .ob hm (.dK hkv) :: L) := by
        rw [List.flatMap_append, List.append_assoc]; rfl
      have B2 : Own H0 H T (.ob Dc (.lst (zs.map fun z => V.ref z.1)) :: (((zs ++ [(u1, t1, h0)]).flatMap fun z => [Cell.ob z.1 (.tup [.int z.2.2, .ref z.2.1]), Cell.ob z.2.1 (.tup [.int z.2.2, .int 0])]) ++ (.fm p2 q2 (vv (cut ns)) :: .ob hm (.dK hkv) :: L))) := by
        rw [ec]
        exact B1.perm (((List.perm_middle.symm.cons _).trans List.perm_middle.symm).cons _)
      have ek : (hsF ns)[k]? = some h0 := by unfold hsF; rw [List.getElem?_map, ef]; rfl
      have B2p := B2
      generalize hM : (((zs ++ [(u1, t1, h0)]).flatMap fun z => [Cell.ob z.1 (.tup [.int z.2.2, .ref z.2.1]), Cell.ob z.2.1 (.tup [.int z.2.2, .int 0])]) ++ (.fm p2 q2 (vv (cut ns)) :: .ob hm (.dK hkv) :: L)) = MM at B2
      exact s_el (M := MM) B2 (by rw [List.length_map]; unfold sizeLine; omega) ⟨zs ++ [(u1, t1, h0)], by rw [List.map_append]; rfl, by rw [List.map_append, hz, List.take_add_one, ek]; rfl, hM.symm⟩
    rintro pl acc M H ⟨zs, rfl, hz, rfl⟩ B
    repeat infer_instance
    have hzl := congrArg List.length hz
    rw [List.length_map, List.length_map, List.length_take, hq2] at hzl
    have hhl : (hsF ns).length = (cut ns).length := by unfold hsF; rw [List.length_map]
    have hz3 : zs.map (fun z => z.2.2) = hsF ns := by rw [hz, List.length_map, hq2, ← hhl, List.take_length]
    refine s_dictP (ts := zs.map (·.1)) (kvs := zs.map fun z => ((.inl z.2.2 : Key), V.ref z.2.1)) B (by rw [List.map_map]; exact B.get pl) (by rw [List.length_map, List.length_map]) (fun j t p h1 h2 => ?_) (by rw [List.length_map]; omega) ?_ fun d H B => ?_
    · rw [List.getElem?_map] at h1 h2
      obtain ⟨z, hz4, rfl⟩ := Option.map_eq_some_iff.mp h1
      rw [hz4] at h2
      cases h2
      exact B.cellF (List.mem_cons_of_mem _ (List.mem_append_left _ (List.mem_flatMap.mpr ⟨z, List.mem_of_getElem? hz4, List.mem_cons_self ..⟩)))
    · rw [List.map_map]
      have : (zs.map ((fun p : Key × V => p.1) ∘ fun z => ((.inl z.2.2 : Key), V.ref z.2.1))) = (zs.map fun z => z.2.2).map Sum.inl := by rw [List.map_map]; rfl
      rw [this, hz3]
      exact List.Pairwise.map _ (fun x y h e => h (Sum.inl.inj e)) hsF_nd
    have ndk : ((zs.map fun z => ((.inl z.2.2 : Key), V.ref z.2.1)).map (·.1)).Nodup := by
      have : ((zs.map fun z => ((.inl z.2.2 : Key), V.ref z.2.1)).map (·.1)) = (zs.map fun z => z.2.2).map Sum.inl := by rw [List.map_map, List.map_map]; rfl
      rw [this, hz3]
      exact List.Pairwise.map _ (fun x y h e => h (Sum.inl.inj e)) hsF_nd
    have hG : ∀ n, n < (cut ns).length → ∃ t, valV (zs.map fun z => ((.inl z.2.2 : Key), V.ref z.2.1)) (kN (hsF ns) (n + 1)) = some (.ref t) ∧ Cell.ob t (.tup [kV (kN (hsF ns) (n + 1)), .int 0]) ∈ (zs.flatMap fun z => [Cell.ob z.1 (.tup [.int z.2.2, .ref z.2.1]), Cell.ob z.2.1 (.tup [.int z.2.2, .int 0])]) := fun n hn => by
      have ez : zs[n]? = some (zs[n]'(by omega)) := List.getElem?_eq_getElem _
      generalize zs[n]'(by omega) = z at ez
      have eh : kN (hsF ns) (n + 1) = .inl z.2.2 := by
        show Sum.inl ((hsF ns).getD n 0) = _
        rw [← hz3, List.getD_eq_getElem?_getD, List.getElem?_map, ez]
        rfl
      rw [eh]
      exact ⟨z.2.1, valV_at ndk (by rw [List.getElem?_map, ez]; rfl), List.mem_flatMap.mpr ⟨z, List.mem_of_getElem? ez, List.mem_cons_of_mem _ (List.mem_cons_self ..)⟩⟩
    have hO : ∀ k, valV (zs.map fun z => ((.inl z.2.2 : Key), V.ref z.2.1)) k ≠ none → ∃ n, n ≤ (cut ns).length ∧ k = kN (hsF ns) n := fun k hk => by
      rw [← key_mem, List.map_map] at hk
      obtain ⟨z, hz5, rfl⟩ := List.mem_map.mp hk
      obtain ⟨n, hn⟩ := List.mem_iff_getElem?.mp hz5
      have hnl := (List.getElem?_eq_some_iff.mp hn).1
      refine ⟨n + 1, by omega, ?_⟩
      show Sum.inl z.2.2 = Sum.inl ((hsF ns).getD n 0)
      rw [← hz3, List.getD_eq_getElem?_getD, List.getElem?_map, hn]
      rfl
    have hkl : (zs.map fun z => ((.inl z.2.2 : Key), V.ref z.2.1)).length ≤ 1000 := by rw [List.length_map]; omega
    have B := B.perm (((List.perm_middle.trans (List.perm_middle.cons _)).cons _).cons _)
    generalize (zs.flatMap fun z => [Cell.ob z.1 (.tup [.int z.2.2, .ref z.2.1]), Cell.ob z.2.1 (.tup [.int z.2.2, .int 0])]) = G0 at hG B
    generalize (zs.map fun z => ((.inl z.2.2 : Key), V.ref z.2.1)) = kv0 at hG hO hkl B
    have B : Own H0 H T (.ob d (.dK kv0) :: .ob hm (.dK hkv) :: (G0 ++ L)) := B.arr
    repeat infer_instance
    refine s_newT B (show 2 ≤ sizeLine by decide) fun t0 H B => ?_
    repeat infer_instance
    refine s_setDK (k := .inr "start") rfl B (by unfold sizeLine; omega) fun H B => ?_
    have S0 : SideT (putK kv0 (.inr "start") (.ref t0)) (.ob t0 (.tup [.str "start", .int 0]) :: G0) (cut ns).length (hsF ns) (fun n => n) (fun _ => false) := by
      refine ⟨fun n hn => ?_, fun k hk => ?_⟩
      · cases n with
        | zero => exact ⟨t0, by rw [valV_put]; exact if_pos rfl, List.mem_cons_self ..⟩
        | succ n =>
          obtain ⟨t, h1, h2⟩ := hG n hn
          exact ⟨t, by rw [valV_put, if_neg (by intro e; cases e)]; exact h1, List.mem_cons_of_mem _ h2⟩
      · rw [valV_put] at hk
        by_cases e : k = .inr "start"
        · exact ⟨0, Nat.zero_le _, e⟩
        · rw [if_neg e] at hk
          exact hO k hk
    have hkl1 := length_putK kv0 (.inr "start") (.ref t0)
    generalize putK kv0 (.inr "start") (.ref t0) = kv1 at S0 hkl1 B
    have B : Own H0 H T (.ob d (.dK kv1) :: .ob hm (.dK hkv) :: ((.ob t0 (.tup [.str "start", .int 0]) :: G0) ++ L)) := (show Own H0 H T (.ob d (.dK kv1) :: .ob hm (.dK hkv) :: .ob t0 (.tup [.str "start", .int 0]) :: (G0 ++ L)) from B.arr)
    generalize (Cell.ob t0 (.tup [.str "start", .int 0]) :: G0) = G1 at S0 B
    repeat infer_instance
    have hL : ∀ {c G : List Cell} {H' : Hp}, Own H0 H' T (c ++ (G ++ L)) → Own H0 H' T L := fun B' => Own.offN (Own.offN B')
    refine s_itH (F.fc _ (hL (c := [_, _]) B)).top ?_
    refine s_forL (fun i σ M => ∃ (kvs : List (Key × V)) (G : List Cell) (l : Nat → Nat) (s : Nat → Bool) (y6 y7 y8 y9 y10 y11 y12 : Option V), σ = [some (.ref a), some (.ref b), some (.ref hm), y3, y4, some (.ref d), y6, y7, y8, y9, y10, y11, y12] ∧ kvs.length ≤ 1001 ∧ SideT kvs G (cut ns).length (hsF ns) l s ∧ UG ((cut ns).length + 1) ((fs.take i).map (lkF ns)) l s ∧ M = .ob d (.dK kvs) :: .ob hm (.dK hkv) :: (G ++ L)) (ts.map V.ref) B ⟨kv1, G1, _, _, none, none, none, none, none, none, none, rfl, by omega, S0, UG.start _, rfl⟩ ?_ ?_ ?_
    · rintro i σ M H ⟨_, _, _, _, _, _, _, _, _, _, _, _, _, _, _, rfl⟩ B
      exact SqL.of (F.fc _ (hL (c := [_, _]) B)).top
    · rintro i x σ M H hx ⟨kvs, G, l, s, y6, y7, y8, y9, y10, y11, y12, rfl, hk, S, U, rfl⟩ B
      rw [List.getElem?_map] at hx
      obtain ⟨t, ht, rfl⟩ := Option.map_eq_some_iff.mp hx
      have hi := (List.getElem?_eq_some_iff.mp ht).1
      have ef : fs[i]? = some (fs[i]'(by omega)) := List.getElem?_eq_getElem _
      generalize fs[i]'(by omega) = f at ef
      have okf := F.ok f (List.mem_of_getElem? ef)
      obtain ⟨lu, lv⟩ := lk_le okf
      have e1 : (lkF ns f).1 = ndF ns f.2.1 := by unfold lkF; split <;> rfl
      have tkf : (fs.take (i + 1)).map (lkF ns) = (fs.take i).map (lkF ns) ++ [((lkF ns f).1, (lkF ns f).2.1, (lkF ns f).2.2)] := by rw [List.take_add_one, ef, List.map_append]; rfl
      have dtl := (F.fc _ (hL (c := [_, _]) B)).row i t f ht ef
      have ev : (f.1 = "in" ∧ (lkF ns f).2.1 = 0 ∧ f.2.2 = (bitN (lkF ns f).2.2 : Nat)) ∨ (¬ f.1 = "in" ∧ (lkF ns f).2.1 = ndF ns f.2.2 ∧ f.2.2 ∈ ns ∧ (lkF ns f).2.2 = decide (f.1 = "apart")) := by
        rcases okf.2 with ⟨e, h3⟩ | ⟨e, h3, h4⟩
        · refine .inl ⟨e, by unfold lkF; rw [if_pos e], ?_⟩
          unfold lkF
          rw [if_pos e]
          show f.2.2 = (bitN (f.2.2 == 1) : Nat)
          rcases h3 with h | h <;> rw [h] <;> rfl
        · have ne : ¬ f.1 = "in" := by rcases e with e | e <;> rw [e] <;> decide +kernel
          exact .inr ⟨ne, by unfold lkF; rw [if_neg ne], h3, by unfold lkF; rw [if_neg ne]⟩
      have h1 := okf.1
      obtain ⟨tu, hu1, hu2⟩ := S.at' _ lu
      obtain ⟨tv, hv1, hv2⟩ := S.at' _ lv
      rw [e1] at hu1
      have mG : ∀ {c : List Cell} {H' : Hp} {t : Addr} {o : HO}, Own H0 H' T (c ++ (G ++ L)) → Cell.ob t o ∈ G → H' t = some o := fun B' m => B'.cellF (List.mem_append_right _ (List.mem_append_left _ m))
      generalize (lkF ns f).2.1 = v at *
      generalize (lkF ns f).2.2 = ap at *
      generalize (lkF ns f).1 = u at *
      subst e1
      repeat infer_instance
      refine s_gtH dtl rfl ?_
      repeat infer_instance
      refine s_dgetK (k := .inl f.2.1) rfl (B.get hm) (hv _ h1) ?_
      refine s_dgetK (k := kN (hsF ns) (ndF ns f.2.1)) rfl (B.get d) hu1 ?_
      repeat infer_instance
      refine s_key (fun x H' => x = kV (kN (hsF ns) v) ∧ H = H') (fun key => ?_) ?_
      · refine s_ifx ?_
        repeat infer_instance
        rcases ev with ⟨e, e2, e3⟩ | ⟨e, e2, e3, e4⟩
        · rw [decide_eq_true e]
          refine iteT ?_
          repeat infer_instance
          exact key _ _ ⟨by rw [e2]; rfl, rfl⟩
        · rw [decide_eq_false e]
          refine iteF ?_
          repeat infer_instance
          refine s_dgetK (k := .inl f.2.2) rfl (B.get hm) (hv _ e3) ?_
          exact key _ _ ⟨by rw [e2], rfl⟩
      rintro _ _ ⟨rfl, rfl⟩
      refine s_dgetK (k := kN (hsF ns) v) rfl (B.get d) hv1 ?_
      have et : ((bitN (s (ndF ns f.2.1)) : Nat) : Int) + ((bitN (s v) : Nat) : Int) + ((bitN ap : Nat) : Int) = ((bitN (s (ndF ns f.2.1)) + bitN (s v) + bitN ap : Nat) : Int) := by omega
      have et2 : (((bitN (s (ndF ns f.2.1)) + bitN (s v) + bitN ap : Nat) : Int) % 2) = ((bitN (s (ndF ns f.2.1) ^^ s v ^^ ap) : Nat) : Int) := by
        cases s (ndF ns f.2.1) <;> cases s v <;> cases ap <;> rfl
      iterate 4 infer_instance
      refine s_keyO (fun x H' => x = .int (bitN (s (ndF ns f.2.1) ^^ s v ^^ ap) : Nat) ∧ H = H') (fun Q' key => ?_) ?_
      · repeat infer_instance
        refine s_ixTH (mG (c := [_, _]) B hu2) (show atI _ 1 = some (.int (bitN (s (ndF ns f.2.1)) : Nat)) from atI_nat (j := 1) rfl) ?_
        repeat infer_instance
        refine s_ixTH (mG (c := [_, _]) B hv2) (show atI _ 1 = some (.int (bitN (s v) : Nat)) from atI_nat (j := 1) rfl) ?_
        repeat infer_instance
        refine s_keyO (fun x H' => x = .int (bitN ap : Nat) ∧ H = H') (fun Q' key => ?_) ?_
        · refine s_ifx ?_
          repeat infer_instance
          rcases ev with ⟨e, e2, e3⟩ | ⟨e, e2, e3, e4⟩
          · rw [decide_eq_true e]
            refine iteT ?_
            repeat infer_instance
            exact key (.int f.2.2) _ ⟨by rw [e3], rfl⟩
          · rw [decide_eq_false e]
            refine iteF ?_
            repeat infer_instance
            exact key (.int (if decide (f.1 = "apart") = true then 1 else 0)) _ ⟨by rw [e4]; cases decide (f.1 = "apart") <;> rfl, rfl⟩
        rintro _ _ ⟨rfl, rfl⟩
        repeat infer_instance
        exact key _ _ ⟨by rw [et, et2], rfl⟩
      rintro _ _ ⟨rfl, rfl⟩
      generalize htn : (s (ndF ns f.2.1) ^^ s v ^^ ap) = tn
      refine s_gn ?_
      iterate 1 infer_instance
      refine s_keySO (fun σ' H' => ∃ (x y : Nat) (tx ty : Addr), ((x = ndF ns f.2.1 ∧ y = v ∧ tx = tu ∧ ty = tv) ∨ (x = v ∧ y = ndF ns f.2.1 ∧ tx = tv ∧ ty = tu)) ∧ σ' = [some (.ref a), some (.ref b), some (.ref hm), y3, y4, some (.ref d), some (.str f.1), some (.int f.2.1), some (.int f.2.2), some (.ref tx), some (.ref ty), some (.int (bitN tn : Nat)), y12] ∧ H = H') (fun nx' key => ?_) ?_
      · repeat infer_instance
        refine s_ixTH (mG (c := [_, _]) B hu2) (show atI _ 0 = some (kV (kN (hsF ns) (l (ndF ns f.2.1)))) from atI_nat (j := 0) rfl) ?_
        repeat infer_instance
        refine s_eqKK (k := kN (hsF ns) (l (ndF ns f.2.1))) (j := .inr "start") rfl rfl ?_
        refine ⟨_, rfl, ?_⟩
        refine iteB _ (fun h => ?_) (fun h => ?_)
        · repeat infer_instance
          exact key _ _ ⟨_, _, _, _, .inr ⟨rfl, rfl, rfl, rfl⟩, rfl, rfl⟩
        · repeat infer_instance
          exact key _ _ ⟨_, _, _, _, .inl ⟨rfl, rfl, rfl, rfl⟩, rfl, rfl⟩
      rintro _ _ ⟨x, y, tx, ty, hxy, rfl, rfl⟩
      obtain ⟨hx2, hy2, hlx, hly, huv, hjn⟩ : Cell.ob tx (.tup [kV (kN (hsF ns) (l x)), .int (bitN (s x) : Nat)]) ∈ G ∧ Cell.ob ty (.tup [kV (kN (hsF ns) (l y)), .int (bitN (s y) : Nat)]) ∈ G ∧ x ≤ (cut ns).length ∧ y ≤ (cut ns).length ∧ (l x = l y → l (ndF ns f.2.1) = l v) ∧ ((l (ndF ns f.2.1) = l y ∧ l v = l x) ∨ (l (ndF ns f.2.1) = l x ∧ l v = l y)) := by
        rcases hxy with ⟨rfl, rfl, rfl, rfl⟩ | ⟨rfl, rfl, rfl, rfl⟩
        · exact ⟨hu2, hv2, lu, lv, fun h => h, .inr ⟨rfl, rfl⟩⟩
        · exact ⟨hv2, hu2, lv, lu, fun h => h.symm, .inl ⟨rfl, rfl⟩⟩
      clear hxy
      have lu1 := Nat.lt_succ_of_le lu
      have lv1 := Nat.lt_succ_of_le lv
      have blx := Nat.le_of_lt_succ (U.lt x (Nat.lt_succ_of_le hlx))
      have bly := Nat.le_of_lt_succ (U.lt y (Nat.lt_succ_of_le hly))
      have hhl2 : (hsF ns).length = (cut ns).length := by unfold hsF; rw [List.length_map]
      have kinj : ∀ {n m : Nat}, n ≤ (cut ns).length → m ≤ (cut ns).length → decide (kN (hsF ns) n = kN (hsF ns) m) = decide (n = m) := fun {n m} h1 h2 => by
        rw [Bool.eq_iff_iff, decide_eq_true_iff, decide_eq_true_iff]
        exact ⟨kN_inj hsF_nd (by omega) (by omega), fun e => by rw [e]⟩
      repeat infer_instance
      refine s_ixTH (mG (c := [_, _]) B hx2) (show atI _ 0 = some (kV (kN (hsF ns) (l x))) from atI_nat (j := 0) rfl) ?_
      repeat infer_instance
      refine s_ixTH (mG (c := [_, _]) B hy2) (show atI _ 0 = some (kV (kN (hsF ns) (l y))) from atI_nat (j := 0) rfl) ?_
      repeat infer_instance
      refine s_eqKK (k := kN (hsF ns) (l x)) (j := kN (hsF ns) (l y)) rfl rfl ?_
      refine ⟨_, rfl, ?_⟩
      rw [kinj blx bly]
      by_cases hlxy : l x = l y
      · rw [decide_eq_true hlxy]
        refine iteT ?_
        repeat infer_instance
        cases tn with
        | true =>
          refine iteT ?_
          repeat infer_instance
          refine q0 ((dueF_nil F.ok).mpr fun q hq => ?_) _ (hL (c := [_, _]) B)
          refine U.bad lu1 lv1 (huv hlxy) htn q ?_
          rw [← tkf]
          intro c hc
          obtain ⟨g, hg, rfl⟩ := List.mem_map.mp hc
          exact hq _ (List.mem_map.mpr ⟨g, (List.take_sublist ..).mem hg, rfl⟩)
        | false =>
          refine iteF ?_
          repeat infer_instance
          refine s_inn (M := .ob d (.dK kvs) :: .ob hm (.dK hkv) :: (G ++ L)) B ⟨kvs, G, l, s, _, _, _, _, _, _, _, rfl, hk, S, ?_, rfl⟩
          rw [tkf]
          exact U.skip lu1 lv1 (huv hlxy) htn
      · rw [decide_eq_false hlxy]
        refine iteF ?_
        have UJ := U.join lu1 lv1 (a := ap) (fun e => hlxy e.symm) hjn
        rw [← tkf, htn] at UJ
        have hks : ∀ n, n ≤ (cut ns).length → kN (hsF ns) n ∈ kvs.map (·.1) := fun n hn => by
          obtain ⟨t2, h2, _⟩ := S.at' n hn
          rw [key_mem, h2]
          exact fun z => nomatch z
        have hks2 : ∀ k ∈ kvs.map (·.1), ∃ m, m ≤ (cut ns).length ∧ k = kN (hsF ns) m := fun k hk => S.only k (key_mem.mp hk)
        repeat infer_instance
        refine s_listDk B (B.get d) fun pk H B => ?_
        generalize hkse : kvs.map (·.1) = ks at hks hks2 B
        haveI dk : ∀ (j n : Nat), Decidable (kN (hsF ns) n ∈ ks.take j ∧ l n = l x) := fun _ _ => Classical.propDecidable _
        haveI dk2 : ∀ (n : Nat), Decidable (kN (hsF ns) n ∈ ks ∧ l n = l x) := fun _ => Classical.propDecidable _
        repeat infer_instance
        refine s_itH (B.get pk) ?_
        refine s_forL (fun j σ M => ∃ (kvs' : List (Key × V)) (G' : List Cell) (y12 : Option V), σ = [some (.ref a), some (.ref b), some (.ref hm), y3, y4, some (.ref d), some (.str f.1), some (.int f.2.1), some (.int f.2.2), some (.ref tx), some (.ref ty), some (.int (bitN tn : Nat)), y12] ∧ kvs'.length ≤ 1001 ∧ SideT kvs' G' (cut ns).length (hsF ns) (fun n => if kN (hsF ns) n ∈ ks.take j ∧ l n = l x then l y else l n) (fun n => if kN (hsF ns) n ∈ ks.take j ∧ l n = l x then s n ^^ tn else s n) ∧ Cell.ob tx (.tup [kV (kN (hsF ns) (l x)), .int (bitN (s x) : Nat)]) ∈ G' ∧ Cell.ob ty (.tup [kV (kN (hsF ns) (l y)), .int (bitN (s y) : Nat)]) ∈ G' ∧ M = .ob pk (.lst (ks.map kV)) :: .ob d (.dK kvs') :: .ob hm (.dK hkv) :: (G' ++ L)) (ks.map kV) B ⟨kvs, G, _, rfl, hk, S.congr (fun n hn => by
          have no : ¬ (kN (hsF ns) n ∈ ks.take 0 ∧ l n = l x) := fun h => by
            have h1 := h.1
            rw [List.take_zero] at h1
            exact (nomatch h1)
          exact ⟨(if_neg no).symm, (if_neg no).symm⟩), hx2, hy2, rfl⟩ ?_ ?_ ?_
        · rintro j σ M H ⟨_, _, _, _, _, _, _, _, rfl⟩ B
          exact SqL.of (B.get pk)
        · rintro j z σ M H hz ⟨kvs', G', y12, rfl, hk', S', hx3, hy3, rfl⟩ B
          rw [List.getElem?_map] at hz
          obtain ⟨k, hk9, rfl⟩ := Option.map_eq_some_iff.mp hz
          obtain ⟨m, hmb, rfl⟩ := hks2 k (List.mem_of_getElem? hk9)
          obtain ⟨tm, hm1, hm2⟩ := S'.at' m hmb
          have mG' : ∀ {c : List Cell} {H' : Hp} {t : Addr} {o : HO}, Own H0 H' T (c ++ (G' ++ L)) → Cell.ob t o ∈ G' → H' t = some o := fun B' m => B'.cellF (List.mem_append_right _ (List.mem_append_left _ m))
          have tkj : ks.take (j + 1) = ks.take j ++ [kN (hsF ns) m] := by rw [List.take_add_one, hk9]; rfl
          have mem1 : ∀ n, n ≤ (cut ns).length → (kN (hsF ns) n ∈ ks.take (j + 1) ↔ kN (hsF ns) n ∈ ks.take j ∨ n = m) := fun n hn => by
            rw [tkj, List.mem_append, List.mem_singleton]
            exact ⟨fun h => h.imp id fun e => kN_inj hsF_nd (by omega) (by omega) e, fun h => h.imp id fun e => by rw [e]⟩
          have blm := Nat.le_of_lt_succ (U.lt m (Nat.lt_succ_of_le hmb))
          have bl' : (if kN (hsF ns) m ∈ ks.take j ∧ l m = l x then l y else l m) ≤ (cut ns).length := by split <;> assumption
          repeat infer_instance
          refine s_dgetK (k := kN (hsF ns) m) rfl (B.get d) hm1 ?_
          repeat infer_instance
          refine s_ixTH (mG' (c := [_, _, _]) B hm2) (show atI _ 0 = some (kV (kN (hsF ns) (if kN (hsF ns) m ∈ ks.take j ∧ l m = l x then l y else l m))) from atI_nat (j := 0) rfl) ?_
          repeat infer_instance
          refine s_ixTH (mG' (c := [_, _, _]) B hx3) (show atI _ 0 = some (kV (kN (hsF ns) (l x))) from atI_nat (j := 0) rfl) ?_
          repeat infer_instance
          refine s_eqKK (k := kN (hsF ns) (if kN (hsF ns) m ∈ ks.take j ∧ l m = l x then l y else l m)) (j := kN (hsF ns) (l x)) rfl rfl ?_
          refine ⟨_, rfl, ?_⟩
          rw [kinj bl' blx]
          by_cases hc : (if kN (hsF ns) m ∈ ks.take j ∧ l m = l x then l y else l m) = l x
          · have hnot : ¬ (kN (hsF ns) m ∈ ks.take j ∧ l m = l x) := fun h => by
              rw [if_pos h] at hc
              exact hlxy hc.symm
            have hlm : l m = l x := by rw [if_neg hnot] at hc; exact hc
            rw [decide_eq_true hc]
            refine iteT ?_
            rw [if_neg hnot, if_neg hnot] at hm2
            repeat infer_instance
            refine s_ixTH (mG' (c := [_, _, _]) B hy3) (show atI _ 0 = some (kV (kN (hsF ns) (l y))) from atI_nat (j := 0) rfl) ?_
            repeat infer_instance
            refine s_dgetK (k := kN (hsF ns) m) rfl (B.get d) hm1 ?_
            repeat infer_instance
            refine s_ixTH (mG' (c := [_, _, _]) B hm2) (show atI _ 1 = some (.int (bitN (s m) : Nat)) from atI_nat (j := 1) rfl) ?_
            repeat infer_instance
            refine s_newT B (show 2 ≤ sizeLine by decide) fun t9 H B => ?_
            repeat infer_instance
            have et3 : ((bitN (s m) : Nat) : Int) + ((bitN tn : Nat) : Int) = ((bitN (s m) + bitN tn : Nat) : Int) := by omega
            have et4 : (((bitN (s m) + bitN tn : Nat) : Int) % 2) = ((bitN (s m ^^ tn) : Nat) : Int) := by
              cases s m <;> cases tn <;> rfl
            rw [et3, et4] at B
            refine s_setDK (k := kN (hsF ns) m) rfl B (by unfold sizeLine; omega) fun H B => ?_
            have hlen := putK_old (kvs := kvs') (k := kN (hsF ns) m) (.ref t9) (by rw [hm1]; exact fun z => nomatch z)
            have yes : kN (hsF ns) m ∈ ks.take (j + 1) ∧ l m = l x := ⟨(mem1 m hmb).mpr (.inr rfl), hlm⟩
            have e1 : (if kN (hsF ns) m ∈ ks.take (j + 1) ∧ l m = l x then l y else l m) = l y := if_pos yes
            have e2 : (if kN (hsF ns) m ∈ ks.take (j + 1) ∧ l m = l x then s m ^^ tn else s m) = (s m ^^ tn) := if_pos yes
            have S9 := S'.put (l' := fun n => if kN (hsF ns) n ∈ ks.take (j + 1) ∧ l n = l x then l y else l n) (s' := fun n => if kN (hsF ns) n ∈ ks.take (j + 1) ∧ l n = l x then s n ^^ tn else s n) hsF_nd hhl2.symm hmb (t := t9) (fun n hn hnm => by
              have : (kN (hsF ns) n ∈ ks.take j ∧ l n = l x) ↔ (kN (hsF ns) n ∈ ks.take (j + 1) ∧ l n = l x) := by
                rw [mem1 n hn]
                exact ⟨fun h => ⟨.inl h.1, h.2⟩, fun h => ⟨h.1.resolve_right hnm, h.2⟩⟩
              exact ⟨ite_eq_of this, ite_eq_of this⟩)
            simp only [e1, e2] at S9
            generalize putK kvs' (kN (hsF ns) m) (.ref t9) = kv9 at S9 hlen B
            have B : Own H0 H T (.ob pk (.lst (ks.map kV)) :: .ob d (.dK kv9) :: .ob hm (.dK hkv) :: ((.ob t9 (.tup [kV (kN (hsF ns) (l y)), .int (bitN (s m ^^ tn) : Nat)]) :: G') ++ L)) := (show Own H0 H T (.ob pk (.lst (ks.map kV)) :: .ob d (.dK kv9) :: .ob hm (.dK hkv) :: .ob t9 (.tup [kV (kN (hsF ns) (l y)), .int (bitN (s m ^^ tn) : Nat)]) :: (G' ++ L)) from B.arr)
            exact s_inn (M := .ob pk (.lst (ks.map kV)) :: .ob d (.dK kv9) :: .ob hm (.dK hkv) :: ((.ob t9 (.tup [kV (kN (hsF ns) (l y)), .int (bitN (s m ^^ tn) : Nat)]) :: G') ++ L)) B ⟨kv9, _, _, rfl, by omega, S9, List.mem_cons_of_mem _ hx3, List.mem_cons_of_mem _ hy3, rfl⟩
          · rw [decide_eq_false hc]
            refine iteF ?_
            repeat infer_instance
            refine s_inn (M := .ob pk (.lst (ks.map kV)) :: .ob d (.dK kvs') :: .ob hm (.dK hkv) :: (G' ++ L)) B ⟨kvs', G', _, rfl, hk', S'.congr (fun n hn => ?_), hx3, hy3, rfl⟩
            have : (kN (hsF ns) n ∈ ks.take (j + 1) ∧ l n = l x) ↔ (kN (hsF ns) n ∈ ks.take j ∧ l n = l x) := by
              rw [mem1 n hn]
              constructor
              · rintro ⟨h1 | rfl, h2⟩
                · exact ⟨h1, h2⟩
                · by_cases h3 : kN (hsF ns) n ∈ ks.take j
                  · exact ⟨h3, h2⟩
                  · rw [if_neg fun h => h3 h.1] at hc
                    exact absurd h2 hc
              · exact fun h => ⟨.inl h.1, h.2⟩
            exact ⟨ite_eq_of this.symm, ite_eq_of this.symm⟩
        · rintro σ M H ⟨kvs', G', y12, rfl, hk', S', hx3, hy3, rfl⟩ B
          repeat infer_instance
          refine s_inn (M := .ob d (.dK kvs') :: .ob hm (.dK hkv) :: (G' ++ L)) B.tail ⟨kvs', G', _, _, _, _, _, _, _, _, _, rfl, hk', S'.congr (fun n hn => ?_), UJ, rfl⟩
          have : (kN (hsF ns) n ∈ ks.take (ks.map kV).length ∧ l n = l x) ↔ l n = l x := ⟨fun h => h.2, fun h => ⟨by rw [List.length_map, List.take_length]; exact hks n hn, h⟩⟩
          exact ⟨ite_eq_of this, ite_eq_of this⟩
    · rintro σ M H ⟨kvs, G, l, s, y6, y7, y8, y9, y10, y11, y12, rfl, hk, S, U, rfl⟩ B
      rw [List.length_map, hts, List.take_length] at U
      repeat infer_instance
      refine q1 ?_ _ _ (hL (c := [_, _]) B)
      intro z
      exact (dueF_nil F.ok).mp z s U.some
end
end My
namespace My
open PySem PySem.Spec PyProof.Rows L2 LamX
/-! repr of any values -/
mutual
/-- a value that is not too great to be written -/
def okD : PyData → Prop
  | .none => True
  | .bool _ => True
  | .int i => -(10 ^ 32) < i ∧ i < 10 ^ 32
  | .str x => (PyData.str x).shown.length ≤ 40
  | .list xs => okDs xs
  | .tuple xs => okDs xs
  | .dict kvs => kvs = []
def okDs : List PyData → Prop
  | [] => True
  | x :: xs => okD x ∧ okDs xs
end
mutual
def szD : PyData → Nat
  | .none => 40
  | .bool _ => 40
  | .int _ => 40
  | .str _ => 40
  | .list xs => szDs xs + 10
  | .tuple xs => szDs xs + 10
  | .dict _ => 40
def szDs : List PyData → Nat
  | [] => 0
  | x :: xs => szD x + szDs xs + 10
end
mutual
theorem okD_show : ∀ d : PyData, okD d → d.showable = true ∧ d.shown.length ≤ szD d
  | .none, _ => by exact ⟨by simp only [PyData.showable], by simp only [PyData.shown, szD]; decide +kernel⟩
  | .bool b, _ => by
    refine ⟨by simp only [PyData.showable], ?_⟩
    cases b <;> simp only [PyData.shown, szD] <;> decide +kernel
  | .int i, h => by
    have h2 : -(10 ^ 32) < i ∧ i < 10 ^ 32 := by simpa only [okD] using h
    obtain ⟨b1, _, _, _⟩ := askI (ns := [i]) (fun x hx => by rw [List.mem_singleton.mp hx]; exact h2) (by simp)
    refine ⟨by simpa [dI, PyData.showable, PyData.showableAll] using b1, ?_⟩
    have := int_len h2
    simp only [szD]
    omega
  | .str x, h => by
    refine ⟨by simp only [PyData.showable], ?_⟩
    simpa only [okD, szD] using h
  | .list xs, h => by
    have h2 : okDs xs := by simpa only [okD] using h
    obtain ⟨h3, h4⟩ := okDs_show xs h2
    refine ⟨by simpa only [PyData.showable] using h3, ?_⟩
    have z := listText_len_le (PyData.shownAll xs)
    simp only [PyData.shown, szD]
    rw [PyData.shownAll_length] at z
    omega
  | .tuple xs, h => by
    have h2 : okDs xs := by simpa only [okD] using h
    obtain ⟨h3, h4⟩ := okDs_show xs h2
    refine ⟨by simpa only [PyData.showable] using h3, ?_⟩
    have z := tupleText_len_le (PyData.shownAll xs)
    simp only [PyData.shown, szD]
    rw [PyData.shownAll_length] at z
    omega
  | .dict kvs, h => by
    have h2 : kvs = [] := by simpa only [okD] using h
    subst h2
    exact ⟨by simp only [PyData.showable, PyData.showableKv], by simp only [PyData.shown, PyData.shownKv, szD]; decide +kernel⟩
theorem okDs_show : ∀ ds : List PyData, okDs ds → PyData.showableAll ds = true ∧ ((PyData.shownAll ds).map (·.length)).sum + 4 * ds.length ≤ szDs ds
  | [], _ => ⟨by simp only [PyData.showableAll], by simp only [PyData.shownAll, List.map_nil, List.sum_nil, List.length_nil, szDs]; omega⟩
  | d :: ds, h => by
    have h2 : okD d ∧ okDs ds := by simpa only [okDs] using h
    obtain ⟨a1, a2⟩ := okD_show d h2.1
    obtain ⟨b1, b2⟩ := okDs_show ds h2.2
    refine ⟨by simp only [PyData.showableAll, a1, b1, Bool.and_self], ?_⟩
    simp only [PyData.shownAll, List.map_cons, List.sum_cons, List.length_cons, szDs]
    omega
end
theorem okDs_of : ∀ {es : List PyData}, (∀ e ∈ es, okD e) → okDs es
  | [], _ => by simp only [okDs]
  | e :: es, h => by
    simp only [okDs]
    exact ⟨h e (List.mem_cons_self ..), okDs_of fun x hx => h x (List.mem_cons_of_mem _ hx)⟩
theorem dep_of : ∀ {es : List PyData} {n : Nat}, (∀ e ∈ es, e.depth ≤ n) → PyData.depthAll es ≤ n
  | [], _, _ => by simp only [PyData.depthAll]; omega
  | e :: es, n, h => by
    have h1 := h e (List.mem_cons_self ..)
    have h2 := dep_of fun x hx => h x (List.mem_cons_of_mem _ hx)
    simp only [PyData.depthAll]
    omega
/-- the range of all numbers of the law -/
theorem fc_okD {ns : List Int} {f : Fc} (ok : okF ns f) (w : Wd ns) : okD (fcD f) ∧ szD (fcD f) = 160 ∧ (fcD f).depth ≤ 5 ∧ (fcD f).hasDict = false := by
  obtain ⟨h1, h2⟩ := w _ ok.1
  have h3 : -(10 ^ 30) < f.2.2 ∧ f.2.2 < 10 ^ 30 := by
    rcases ok.2 with ⟨_, h | h⟩ | ⟨_, h, _⟩
    · rw [h]; decide
    · rw [h]; decide
    · exact w _ h
  have h4 : (PyData.str f.1).shown.length ≤ 40 := by
    rcases ok.str with e | e | e <;> rw [e] <;> decide +kernel
  refine ⟨?_, ?_, ?_, ?_⟩
  · unfold fcD
    simp only [okD, okDs]
    exact ⟨h4, ⟨by omega, by omega⟩, ⟨by omega, by omega⟩, trivial⟩
  · unfold fcD
    simp only [szD, szDs]
  · unfold fcD
    simp only [PyData.depth, PyData.depthAll]
    omega
  · unfold fcD
    simp only [PyData.hasDict, PyData.hasDictAll, Bool.or_self]
theorem szFcs {ns : List Int} (w : Wd ns) : ∀ {fs : List Fc}, (∀ f ∈ fs, okF ns f) → szDs (fs.map fcD) = 170 * fs.length
  | [], _ => by simp only [List.map_nil, szDs, List.length_nil]
  | f :: fs, h => by
    have h1 := (fc_okD (h f (List.mem_cons_self ..)) w).2.1
    have h2 := szFcs w fun x hx => h x (List.mem_cons_of_mem _ hx)
    simp only [List.map_cons, szDs, List.length_cons, h1, h2]
    omega
theorem szInts : ∀ (ns : List Int), szDs (ns.map PyData.int) = 50 * ns.length
  | [] => by simp only [List.map_nil, szDs, List.length_nil]
  | n :: ns => by
    have := szInts ns
    simp only [List.map_cons, szDs, szD, List.length_cons, this]
    omega
theorem hasNone : ∀ {ds : List PyData}, (∀ d ∈ ds, d.hasDict = false) → PyData.hasDictAll ds = false
  | [], _ => by simp only [PyData.hasDictAll]
  | d :: ds, h => by
    simp only [PyData.hasDictAll, h d (List.mem_cons_self ..), hasNone fun x hx => h x (List.mem_cons_of_mem _ hx), Bool.or_self]
/-- the numbers and the facts, as one value -/
def rfD (ns : List Int) (fs : List Fc) : PyData := .list [dI ns, .list (fs.map fcD)]
theorem s_repRF {K : PySem.W.Frag} {H : Hp} {x a b : Addr} {ts : List Addr} {ns : List Int} {fs : List Fc} {Q : VK} (h : H x = some (.lst [.ref a, .ref b])) (ha : H a = some (.lst (ns.map V.int))) (F : FcsAt H b ts fs) (ok : ∀ f ∈ fs, okF ns f) (w : Wd ns) (hl : ns.length ≤ 300) (fl : fs.length ≤ 100) (k : Q (.str (rfD ns fs).shown) H) : rRep K [.ref x] H Q := by
  have o1 : okD (rfD ns fs) := by
    unfold rfD dI
    simp only [okD, okDs]
    refine ⟨okDs_of fun e he => ?_, okDs_of fun e he => ?_, trivial⟩
    · obtain ⟨i, hi, rfl⟩ := List.mem_map.mp he
      have := w i hi
      simp only [okD]
      omega
    · obtain ⟨f, hf, rfl⟩ := List.mem_map.mp he
      exact (fc_okD (ok f hf) w).1
  obtain ⟨s1, s2⟩ := okD_show _ o1
  refine s_repD (d := rfD ns fs) (.lst (SqL.of h) (.cons (dpI (SqL.of ha)) (.cons F.dp .nil))) s1 ?_ ?_ ?_ k
  · unfold rfD dI
    simp only [PyData.hasDict, PyData.hasDictAll]
    rw [hasNone, hasNone]
    · rfl
    · intro d hd
      obtain ⟨f, hf, rfl⟩ := List.mem_map.mp hd
      exact (fc_okD (ok f hf) w).2.2.2
    · intro d hd
      obtain ⟨i, _, rfl⟩ := List.mem_map.mp hd
      simp only [PyData.hasDict]
  · refine Nat.le_trans s2 ?_
    unfold rfD dI
    simp only [szD, szDs]
    rw [szInts, szFcs w ok]
    unfold sizeLine
    omega
  · unfold rfD dI
    simp only [PyData.depth, PyData.depthAll]
    have d1 : PyData.depthAll (ns.map PyData.int) ≤ 5 := dep_of fun e he => by
      obtain ⟨i, _, rfl⟩ := List.mem_map.mp he
      simp only [PyData.depth]
      omega
    have d2 : PyData.depthAll (fs.map fcD) ≤ 5 := dep_of fun e he => by
      obtain ⟨f, hf, rfl⟩ := List.mem_map.mp he
      exact (fc_okD (ok f hf) w).2.2.1
    omega
end My
namespace My
open PySem PySem.Spec PyProof.Rows L2 LamX
local macro_rules | `(tactic| infer_instance) => `(tactic| first
  | with_reducible refine s_var (by with_unfolding_all exact rfl) ?_
  | with_reducible apply s_C
  | with_reducible apply s_op
  | with_reducible apply s_i0
  | with_reducible apply s_seq
  | with_reducible apply s_asg
  | with_reducible apply s_gn
  | with_reducible apply s_nil
  | with_reducible apply s_cons
  | with_reducible apply s_cb
  | with_reducible apply s_call
  | with_reducible apply s_un
  | with_reducible apply s_u
  | with_reducible apply s_test
  | with_reducible apply s_blV
  | with_reducible apply s_eqI
  | with_reducible apply s_neI
  | with_reducible apply s_ifs
  | with_reducible apply s_drop
  | with_reducible apply s_ret
  | with_reducible apply s_lst
  | with_reducible apply s_tup
  | with_reducible apply s_and
  | with_reducible apply s_or
  | with_reducible apply s_not
  | with_reducible apply s_tB
  | with_reducible apply s_bm
  | with_reducible apply s_bm0
  | with_reducible apply s_for
  | with_reducible apply s_iList
  | with_reducible apply s_iTup
  | with_reducible apply s_mndS
  | with_reducible apply s_srtS
  | with_reducible apply s_lc2S
  | with_reducible apply s_remS
  | with_reducible apply s_iRng
  | with_reducible apply s_iEnum
  | with_reducible apply s_iRng3
  | with_reducible apply s_iZip
  | with_reducible apply s_iZip3
  | with_reducible apply s_iRev
  | with_reducible apply s_get2S
  | with_reducible apply s_iEZ
  | with_reducible apply s_sl
  | with_reducible apply s_noPart
  | with_reducible apply s_part
  | with_reducible apply s_partI
  | with_reducible apply s_neS
  | with_reducible apply s_eqS
  | with_reducible apply s_lc
  | with_reducible apply s_dc
  | with_reducible apply s_dg
  | with_reducible apply s_di
  | with_reducible apply s_dni
  | with_reducible apply s_yes
  | with_reducible apply s_chain
  | with_reducible refine s_aug (by with_unfolding_all exact rfl) ?_
  | with_reducible apply s_ip
  | with_reducible apply s_revL
  | with_reducible apply s_gsub
  | with_reducible apply s_gslc
  | with_reducible apply s_parS
  | with_reducible apply s_par
  | with_reducible apply s_gc
  | with_reducible apply s_gnil
  | with_reducible apply s_brk
  | with_reducible apply s_cnt
  | with_reducible apply s_next
  | with_reducible apply s_andV
  | with_reducible apply s_orV
  | with_reducible apply s_notV
  | with_reducible apply s_isB
  | with_reducible apply s_notB
  | with_reducible apply s_max2
  | with_reducible apply s_min2
  | with_reducible apply s_abs
  | with_reducible apply s_intB
  | (with_reducible refine s_len (by assumption) ?_)
  | (with_reducible refine s_lenF (by assumption) ?_)
  | (with_reducible refine s_ty (by assumption) ?_)
  | (with_reducible refine s_tyF (by assumption) ?_)
  | (with_reducible refine s_i (by first | decide | exact cpow_ok (by decide) (by decide) (by decide) | exact cdivw (by decide) (by decide) | exact cmul_l (by decide) (by decide) | exact cmul_r (by decide) (by decide) | omega | exact cmul_l (by omega) (by omega) | exact cmul_r (by omega) (by omega)) ?_))

abbrev nLawRight : List Str := ["result", "facts", "kept", "due", "told", "first"]
theorem scLawRight : FnScope nLawRight ["result", "facts"] (defScope sLawRight) := ⟨rfl, rfl, rfl, by decide +kernel, rfl, by decide +kernel, by decide +kernel⟩

section
variable {P : Program} {w : World} {K : PySem.W.Frag} {mg : Str → Option Value} {base : Heap}
def spLawRight : Sp := fun vs H Q _ => ∃ (H0 : Hp) (T : List (Addr × Str)) (L : List Cell) (a b : Addr) (ns : List Int) (ts : List Addr) (fs : List Fc), vs = [.ref a, .ref b] ∧ Own H0 H T L ∧ FactsAt H0 T L a ns b ts fs ∧ Wd ns ∧ ns.length ≤ 100 ∧ fs.length ≤ 100 ∧ (cut ns).length ≤ 7 ∧ ∀ H', Own H0 H' T L → Q (.bl true) H'
set_option maxHeartbeats 0 in
theorem ok_LawRight {f : Addr} {fd : FuncData} {k : Nat} (F : Fun K "_law_right" "_law_right" sLawRight f fd) (Tx : Txt mg) (C_contradiction_of : Cal P w K mg base k "contradiction_of" ["result", "facts"] spContradictionOf) (C_is_contradiction : Cal P w K mg base k "is_contradiction" ["result", "facts", "value"] spIsContradiction) (C__law_fitting : Cal P w K mg base k "_law_fitting" ["result", "facts"] spLawFitting) (C__law_is_minimal : Cal P w K mg base k "_law_is_minimal" ["result", "facts", "value"] spLawIsMinimal) : FnG P w K mg base (k + 1) f fd ["result", "facts"] spLawRight := by
  refine okG F scLawRight (fun vs H Q E h => ?_) (fun cdv A outer s H vs Q E gu hr h => ?_)
  · obtain ⟨_, _, _, a, b, ns, ts, fs, rfl, _⟩ := h
    rfl
  · obtain ⟨H0, T, L, a, b, ns, ts, fs, rfl, B, F, wd, hl, hf, h7, q⟩ := h
    refine ⟨_, (pss_cons (ps_par (i := 2) (j := 3) (by rfl) scLawRight.nd rfl rfl (by decide) rfl rfl (pa_cons (pe_callB ((cr_rep gu (hu100_of hr))) (by rfl) Tx.repr (by decide +kernel) (pa_cons (pe_lst (pa_cons (pv 0) (pa_cons (pv 1) pa_nil))) pa_nil)) (pa_cons (pe_cmpR (op_eqD hr.units) (pe_cal C__law_fitting hr (by rfl) (pa_cons (pv 0) (pa_cons (pv 1) pa_nil))) (pe_lst pa_nil) (nomark _)) pa_nil)) (by rfl))
 (pss_cons (ps_set (i := 4) scLawRight.nd rfl (.inl rfl) (pe_cal C_contradiction_of hr (by rfl) (pa_cons (pv 0) (pa_cons (pv 1) pa_nil))))
 (pss_cons (ps_if (PW.pt (pw_or (pt_cmpR op_ne (pe_cmpR op_notN (pv 4) pe_non (by rfl)) (pv 3) (by rfl)) (pw_or1 (pt_cmpR op_ne (pe_callB ((cr_rep gu (hu100_of hr))) (by rfl) Tx.repr (by decide +kernel) (pa_cons (pe_lst (pa_cons (pv 0) (pa_cons (pv 1) pa_nil))) pa_nil)) (pv 2) (by rfl)))))
  (pss_one (ps_ret pe_bl)) pss_nil)
 (pss_cons (ps_if (pt_cmpR op_notN (pv 4) pe_non (by rfl))
  (pss_cons (ps_set (i := 5) scLawRight.nd rfl (.inl rfl) (pe_callB ((cr_rep gu (hu100_of hr))) (by rfl) Tx.repr (by decide +kernel) (pa_cons (pv 4) pa_nil)))
 (pss_cons (ps_if (PW.pt (pw_or (pt_not (pt_val (pe_cal C__law_is_minimal hr (by rfl) (pa_cons (pv 0) (pa_cons (pv 1) (pa_cons (pv 4) pa_nil)))))) (pw_or1 (pt_cmpR op_notBl (pe_cal C_is_contradiction hr (by rfl) (pa_cons (pv 0) (pa_cons (pv 1) (pa_cons (pv 4) pa_nil)))) pe_bl (by rfl)))))
  (pss_one (ps_ret pe_bl)) pss_nil)
 (pss_cons (ps_expr (pe_bm PySem.F.plainAttrs_list PySem.F.slot_list_append PySem.F.type_list_append mt_append (pv 4) (pa_cons pe_int pa_nil)))
 (pss_one (ps_ret (pe_cmpR op_eq (pe_callB ((cr_rep gu (hu100_of hr))) (by rfl) Tx.repr (by decide +kernel) (pa_cons (pe_cal C_contradiction_of hr (by rfl) (pa_cons (pv 0) (pa_cons (pv 1) pa_nil))) pa_nil)) (pv 5) (by rfl))))))) pss_nil)
 (pss_one (ps_ret pe_bl)))))), ?_⟩
    repeat infer_instance
    refine s_newL B (show 2 ≤ sizeLine by decide) fun r1 H B => ?_
    repeat infer_instance
    refine s_repRF (B.get r1) (F.nu _ B.tail) (F.fc _ B.tail) F.ok wd (by omega) hf ?_
    have B := B.tail
    repeat infer_instance
    refine u_fitting B F h7 fun N p rs H B G => ?_
    repeat infer_instance
    refine s_newL B (Nat.zero_le _) fun l H B => ?_
    refine s_eqFA (fam2 := []) (qs2 := []) (G _ B.tail) ⟨B.get l, Rws.nil⟩ ?_
    have B := Own.offN B.tail
    repeat infer_instance
    refine u_contraOf B F (fun hd H B => ?_) (fun hd told H B => ?_)
    · rw [decide_eq_false fun z => hd (List.map_eq_nil_iff.mp z)]
      repeat infer_instance
      refine ⟨rfl, ?_⟩
      repeat infer_instance
      refine s_neB ?_
      refine ⟨_, rfl, ?_⟩
      refine iteF ?_
      repeat infer_instance
      refine s_newL B (show 2 ≤ sizeLine by decide) fun r2 H B => ?_
      repeat infer_instance
      refine s_repRF (B.get r2) (F.nu _ B.tail) (F.fc _ B.tail) F.ok wd (by omega) hf ?_
      have B := B.tail
      repeat infer_instance
      rw [decide_eq_true rfl]
      refine iteF ?_
      repeat infer_instance
      refine ⟨rfl, ?_⟩
      repeat infer_instance
      refine iteF ?_
      repeat infer_instance
      exact q _ B
    · rw [hd]
      repeat infer_instance
      refine ⟨rfl, ?_⟩
      repeat infer_instance
      have C := lcF_ok hd
      have hjd : (lcF ns fs).Nodup := C.asc.imp Nat.ne_of_lt
      have hjl : (lcF ns fs).length ≤ fs.length := by
        have := hjd.length_le_of_subset (l₂ := List.range fs.length) (fun j hj => List.mem_range.mpr (C.lt j hj))
        rwa [List.length_range] at this
      have hij : (ixs (lcF ns fs)).length = (lcF ns fs).length := by unfold ixs; rw [List.length_map]
      have hsh : Sh (ixs (lcF ns fs)) := fun x hx => by
        obtain ⟨j, hj, rfl⟩ := List.mem_map.mp hx
        have := C.lt j hj
        omega
      refine s_neB ?_
      refine ⟨_, rfl, ?_⟩
      refine iteF ?_
      repeat infer_instance
      refine s_newL B (show 2 ≤ sizeLine by decide) fun r2 H B => ?_
      repeat infer_instance
      refine s_repRF (B.get r2) (F.nu _ B.tail.tail) (F.fc _ B.tail.tail) F.ok wd (by omega) hf ?_
      have B := B.tail
      repeat infer_instance
      rw [decide_eq_true rfl]
      refine iteF ?_
      repeat infer_instance
      refine ⟨rfl, ?_⟩
      repeat infer_instance
      refine iteT ?_
      repeat infer_instance
      refine s_repI (B.get told) hsh (by omega) ?_
      repeat infer_instance
      refine ⟨_, _, _, a, b, told, ns, ts, fs, lcF ns fs, rfl, B, F.more, (fun H' B' => B'.get told), C, h7, fun H B => ?_⟩
      repeat infer_instance
      refine iteF ?_
      repeat infer_instance
      refine u_isContra B F.more (fun H' B' => B'.get told) (by omega) fun H x hx B => ?_
      rw [hx.mpr ⟨_, rfl, C⟩]
      repeat infer_instance
      refine iteF ?_
      repeat infer_instance
      refine s_append B (by rw [List.length_map]; unfold sizeLine; omega) fun H B => ?_
      repeat infer_instance
      refine u_contraOf B F.more (fun hd2 => absurd hd hd2) (fun _ p2 H B => ?_)
      repeat infer_instance
      refine s_repI (B.get p2) hsh (by omega) ?_
      repeat infer_instance
      rw [decide_eq_true rfl]
      exact q _ B.tail.tail
end
end My
namespace My
open PySem PySem.Spec PyProof.Rows L2 LamX
local macro_rules | `(tactic| infer_instance) => `(tactic| first
  | with_reducible refine s_var (by with_unfolding_all exact rfl) ?_
  | with_reducible apply s_C
  | with_reducible apply s_op
  | with_reducible apply s_i0
  | with_reducible apply s_seq
  | with_reducible apply s_asg
  | with_reducible apply s_gn
  | with_reducible apply s_nil
  | with_reducible apply s_cons
  | with_reducible apply s_cb
  | with_reducible apply s_call
  | with_reducible apply s_un
  | with_reducible apply s_u
  | with_reducible apply s_test
  | with_reducible apply s_blV
  | with_reducible apply s_eqI
  | with_reducible apply s_neI
  | with_reducible apply s_ifs
  | with_reducible apply s_drop
  | with_reducible apply s_ret
  | with_reducible apply s_lst
  | with_reducible apply s_tup
  | with_reducible apply s_and
  | with_reducible apply s_or
  | with_reducible apply s_not
  | with_reducible apply s_tB
  | with_reducible apply s_bm
  | with_reducible apply s_bm0
  | with_reducible apply s_for
  | with_reducible apply s_iList
  | with_reducible apply s_iTup
  | with_reducible apply s_mndS
  | with_reducible apply s_srtS
  | with_reducible apply s_lc2S
  | with_reducible apply s_remS
  | with_reducible apply s_iRng
  | with_reducible apply s_iEnum
  | with_reducible apply s_iRng3
  | with_reducible apply s_iZip
  | with_reducible apply s_iZip3
  | with_reducible apply s_iRev
  | with_reducible apply s_get2S
  | with_reducible apply s_iEZ
  | with_reducible apply s_sl
  | with_reducible apply s_noPart
  | with_reducible apply s_part
  | with_reducible apply s_partI
  | with_reducible apply s_neS
  | with_reducible apply s_eqS
  | with_reducible apply s_lc
  | with_reducible apply s_dc
  | with_reducible apply s_dg
  | with_reducible apply s_di
  | with_reducible apply s_dni
  | with_reducible apply s_yes
  | with_reducible apply s_chain
  | with_reducible refine s_aug (by with_unfolding_all exact rfl) ?_
  | with_reducible apply s_ip
  | with_reducible apply s_revL
  | with_reducible apply s_gsub
  | with_reducible apply s_gslc
  | with_reducible apply s_parS
  | with_reducible apply s_par
  | with_reducible apply s_gc
  | with_reducible apply s_gnil
  | with_reducible apply s_brk
  | with_reducible apply s_cnt
  | with_reducible apply s_next
  | with_reducible apply s_andV
  | with_reducible apply s_orV
  | with_reducible apply s_notV
  | with_reducible apply s_isB
  | with_reducible apply s_notB
  | with_reducible apply s_max2
  | with_reducible apply s_min2
  | with_reducible apply s_abs
  | with_reducible apply s_intB
  | (with_reducible refine s_len (by assumption) ?_)
  | (with_reducible refine s_lenF (by assumption) ?_)
  | (with_reducible refine s_ty (by assumption) ?_)
  | (with_reducible refine s_tyF (by assumption) ?_)
  | (with_reducible refine s_i (by first | decide | exact cpow_ok (by decide) (by decide) (by decide) | exact cdivw (by decide) (by decide) | exact cmul_l (by decide) (by decide) | exact cmul_r (by decide) (by decide) | omega | exact cmul_l (by omega) (by omega) | exact cmul_r (by omega) (by omega)) ?_))

abbrev rIsN : R2 := fun x y H Q => y = .non ∧ Q (.bl (decide (x = .non))) H
abbrev nLawGreatRight : List Str := ["pot", "result", "facts", "told", "some", "at"]
theorem scLawGreatRight : FnScope nLawGreatRight ["pot"] (defScope sLawGreatRight) := ⟨rfl, rfl, rfl, by decide +kernel, rfl, by decide +kernel, by decide +kernel⟩

section
variable {P : Program} {w : World} {K : PySem.W.Frag} {mg : Str → Option Value} {base : Heap}
def spLawGreatRight : Sp := fun vs H Q _ => ∃ (H0 : Hp) (T : List (Addr × Str)) (L : List Cell) (D : Addr) (n : Nat), vs = [.ref D] ∧ Own H0 H T (.pr D (CanO n) :: L) ∧ n ≤ 600000 ∧ ∀ H', Own H0 H' T (.pr D (CanO (n + 2010)) :: L) → Q (.bl true) H'
set_option maxHeartbeats 0 in
theorem ok_LawGreatRight {f : Addr} {fd : FuncData} {k : Nat} (F : Fun K "_law_great_right" "_law_great_right" sLawGreatRight f fd) (Tx : Txt mg) (C_contradiction_of : Cal P w K mg base k "contradiction_of" ["result", "facts"] spContradictionOf) (C_is_contradiction : Cal P w K mg base k "is_contradiction" ["result", "facts", "value"] spIsContradiction) (C__law_take : Cal P w K mg base k "_law_take" ["pot", "many"] spLawTake) (C__law_numbers : Cal P w K mg base k "_law_numbers" ["pot", "many"] spLawNumbers) (C__law_facts : Cal P w K mg base k "_law_facts" ["pot", "result", "many"] spLawFacts) (C__law_group : Cal P w K mg base k "_law_group" ["result", "facts"] spLawGroup) : FnOk P w K mg base CX0 (k + 1) f fd ["pot"] spLawGreatRight := by
  refine F.ok scLawGreatRight (fun vs H Q E h => ?_) (fun cdv A outer s H vs Q E hr h => ?_)
  · obtain ⟨_, _, _, D, n, rfl, _⟩ := h
    rfl
  · obtain ⟨H0, T, L, D, n, rfl, B, hn, q⟩ := h
    refine ⟨_, (pss_cons (ps_set (i := 1) scLawGreatRight.nd rfl (.inr rfl) (pe_cal C__law_numbers hr (by rfl) (pa_cons (pv 0) (pa_cons (pe_ix ix_list (pe_lst (pa_cons pe_int (pa_cons pe_int pa_nil))) (pe_cal C__law_take hr (by rfl) (pa_cons (pv 0) (pa_cons pe_int pa_nil))) (fun _ _ => rfl)) pa_nil))))
 (pss_cons (ps_set (i := 2) scLawGreatRight.nd rfl (.inr rfl) (pe_cal C__law_facts hr (by rfl) (pa_cons (pv 0) (pa_cons (pv 1) (pa_cons (pe_ix ix_list (pe_lst (pa_cons pe_int (pa_cons pe_int pa_nil))) (pe_cal C__law_take hr (by rfl) (pa_cons (pv 0) (pa_cons pe_int pa_nil))) (fun _ _ => rfl)) pa_nil)))))
 (pss_cons (ps_set (i := 3) scLawGreatRight.nd rfl (.inl rfl) (pe_cal C_contradiction_of hr (by rfl) (pa_cons (pv 1) (pa_cons (pv 2) pa_nil))))
 (pss_cons (ps_if (pt_cmpR op_ne (pe_cmpR op_notN (pv 3) pe_non (by rfl)) (pe_cmpR op_isN (pe_cal C__law_group hr (by rfl) (pa_cons (pv 1) (pa_cons (pv 2) pa_nil))) pe_non (by rfl)) (nomark _))
  (pss_one (ps_ret pe_bl)) pss_nil)
 (pss_cons (ps_if (pt_cmpR op_isN (pv 3) pe_non (by rfl))
  (pss_one (ps_ret pe_bl)) pss_nil)
 (pss_cons (ps_set (i := 4) scLawGreatRight.nd rfl (.inr rfl) (pe_lc (te := (tOp (rIxL K) (tVar 2) (tVar 5))) (tt := tYes) (own := [("at", 5)]) (g := (gName 5)) (by rfl) scLawGreatRight.nd (pi_list (pv 3)) (blkOk_by (own := [("at", 5)]) (N := nLawGreatRight) (sc := defScope sLawGreatRight) (by decide +kernel)) (fun _ _ _ _ _ => (pg_name (i := 5) scLawGreatRight.nd rfl (Or.inl rfl))) (fun _ _ _ _ _ => pts_nil) (fun _ _ _ _ _ => (pe_ix ix_list (pv 2) (pv 5) (fun _ _ => rfl)))))
 (pss_cons (ps_if (PW.pt (pw_or (pt_cmpR op_notN (pe_cal C__law_group hr (by rfl) (pa_cons (pv 1) (pa_cons (pv 4) pa_nil))) pe_non (by rfl)) (pw_or1 (pt_cmpR (op_neD hr.units) (pe_srtSet (by rfl) Tx.sorted (by rfl) Tx.set (by decide +kernel) (pv 3)) (pv 3) (by rfl)))))
  (pss_one (ps_ret pe_bl)) pss_nil)
 (pss_cons (ps_if (PW.pt (pw_or (pt_cmpR op_notBl (pe_cal C_is_contradiction hr (by rfl) (pa_cons (pv 1) (pa_cons (pv 2) (pa_cons (pv 3) pa_nil)))) pe_bl (by rfl)) (pw_or1 (pt_cmpR op_notBl (pe_cal C_is_contradiction hr (by rfl) (pa_cons (pv 1) (pa_cons (pv 2) (pa_cons (pe_slice sl_list (pv 3) (po_some pe_int) po_none) pa_nil)))) pe_bl (by rfl)))))
  (pss_one (ps_ret pe_bl)) pss_nil)
 (pss_one (ps_ret (pe_cmpR (op_eqD hr.units) (pe_lc (te := (tVar 5)) (tt := (tTest (tOp rIsN (tCall spLawGroup [] E0 (tCons (tVar 1) (tCons (tOp rCat (tSl (rSlL K) (tVar 4) tNoPart (tPart (tVar 5))) (tSl (rSlL K) (tVar 4) (tPart (tOp (rI0 fun i j => .int (i + j)) (tVar 5) (tC (.int 1)))) tNoPart)) tNil))) (tC .non)))) (own := [("at", 5)]) (g := (gName 5)) (by rfl) scLawGreatRight.nd (pi_range1 (by rfl) Tx.range (pa_cons (pe_callB (cl_len) (by rfl) Tx.len (by decide +kernel) (pa_cons (pv 4) pa_nil)) pa_nil)) (blkOk_by (own := [("at", 5)]) (N := nLawGreatRight) (sc := defScope sLawGreatRight) (by decide +kernel)) (fun _ _ _ _ _ => (pg_name (i := 5) scLawGreatRight.nd rfl (Or.inl rfl))) (fun _ _ _ _ _ => pts_one (pt_cmpR op_isN (pe_cal C__law_group hr (by rfl) (pa_cons (pv 1) (pa_cons (pe_op op_cat (pe_slice sl_list (pv 4) po_none (po_some (pv 5))) (pe_slice sl_list (pv 4) (po_some (pe_op op_add (pv 5) pe_int)) po_none)) pa_nil))) pe_non (by rfl))) (fun _ _ _ _ _ => (pv 5))) (pe_lst pa_nil) (nomark _)))))))))))), ?_⟩
    repeat infer_instance
    refine s_newL B (show 2 ≤ sizeLine by decide) fun l0 H B => ?_
    repeat infer_instance
    refine u_take B (by omega) (by decide) (by decide) fun v0 H B hv0 => ?_
    obtain ⟨m0, hat0, hm0⟩ : ∃ m : Nat, atI [V.int 40, V.int 150] (v0 : Int) = some (.int (m : Int)) ∧ m ≤ 150 := by
      rcases (show v0 = 0 ∨ v0 = 1 by omega) with rfl | rfl
      · exact ⟨40, rfl, by omega⟩
      · exact ⟨150, rfl, by omega⟩
    repeat infer_instance
    refine s_ix B hat0 ?_
    have B : Own H0 H T (.pr D (CanO (n + 1)) :: L) := B.arr
    repeat infer_instance
    refine ⟨_, _, _, D, m0, n + 1, rfl, B, by omega, by omega, fun p ns H nd hl wd B => ?_⟩
    repeat infer_instance
    refine s_newL B (show 2 ≤ sizeLine by decide) fun l1 H B => ?_
    repeat infer_instance
    refine u_take B (by omega) (by decide) (by decide) fun v1 H B hv1 => ?_
    obtain ⟨m1, hat1, hm1⟩ : ∃ m : Nat, atI [V.int 20, V.int 60] (v1 : Int) = some (.int (m : Int)) ∧ m ≤ 60 := by
      rcases (show v1 = 0 ∨ v1 = 1 by omega) with rfl | rfl
      · exact ⟨20, rfl, by omega⟩
      · exact ⟨60, rfl, by omega⟩
    repeat infer_instance
    refine s_ix B hat1 ?_
    have B : Own H0 H T (.pr D (CanO (n + 1 + 1000 + 1)) :: .ob p (.lst (ns.map V.int)) :: L) := B.arr
    repeat infer_instance
    refine u_lfacts B (fun H' B' => B'.get p) nd (by omega) hm1 (by omega) fun fa ts fs N H hfl F B => ?_
    have hEnd : ∀ {c : List Cell} {H' : Hp}, Own H0 H' T (c ++ (.pr D (CanO (n + 1 + 1000 + 1 + 1000)) :: (N ++ (.ob p (.lst (ns.map V.int)) :: L)))) → Q (.bl true) H' := fun B' => by
      have B1 := (Own.offN B').perm (List.perm_middle (l₁ := N) (a := .pr D (CanO (n + 1 + 1000 + 1 + 1000)))).symm
      have B2 : Own H0 _ T (.pr D (CanO (n + 1 + 1000 + 1 + 1000)) :: L) := (Own.offN B1).arr
      exact q _ (B2.upH (by omega))
    generalize N ++ (.ob p (.lst (ns.map V.int)) :: L) = M at F B hEnd
    replace F := F.more (c := .pr D (CanO (n + 1 + 1000 + 1 + 1000)))
    generalize (Cell.pr D (CanO (n + 1 + 1000 + 1 + 1000)) :: M) = W at F B hEnd
    have hts := (F.fc _ B).len
    repeat infer_instance
    refine u_contraOf B F (fun hd H B => ?_) (fun hd told H B => ?_)
    · repeat infer_instance
      refine ⟨rfl, ?_⟩
      repeat infer_instance
      refine u_group B F (fun z => absurd z hd) fun _ d H B => ?_
      repeat infer_instance
      refine ⟨rfl, ?_⟩
      refine s_neB ?_
      refine ⟨_, rfl, ?_⟩
      refine iteF ?_
      repeat infer_instance
      refine ⟨rfl, ?_⟩
      repeat infer_instance
      refine iteT ?_
      repeat infer_instance
      exact hEnd (c := []) B
    · have C := lcF_ok hd
      have hjd : (lcF ns fs).Nodup := C.asc.imp Nat.ne_of_lt
      have hjl : (lcF ns fs).length ≤ fs.length := by
        have := hjd.length_le_of_subset (l₂ := List.range fs.length) (fun j hj => List.mem_range.mpr (C.lt j hj))
        rwa [List.length_range] at this
      have hij : (ixs (lcF ns fs)).length = (lcF ns fs).length := by unfold ixs; rw [List.length_map]
      have hne : lcF ns fs ≠ [] := fun z => by
        have := C.bad
        rw [z] at this
        exact (dueF_nil (fs := []) (fun f h => nomatch h)).mp this (fun _ => false) (fun c h => nomatch h)
      generalize lcF ns fs = js at *
      repeat infer_instance
      refine ⟨rfl, ?_⟩
      repeat infer_instance
      refine u_group B F.more (fun _ H B => ?_) (fun z => absurd hd z)
      repeat infer_instance
      refine ⟨rfl, ?_⟩
      refine s_neB ?_
      refine ⟨_, rfl, ?_⟩
      refine iteF ?_
      repeat infer_instance
      refine ⟨rfl, ?_⟩
      repeat infer_instance
      refine iteF ?_
      repeat infer_instance
      refine s_itH (B.get told) ?_
      refine s_lcL (fun k acc M => acc = (pk ts (js.take k)).map V.ref ∧ M = .ob told (.lst ((ixs js).map V.int)) :: W) ((ixs js).map V.int) B ⟨rfl, rfl⟩ ?_ (fun _ => rfl) ?_ ?_
      · rintro k acc M H ⟨_, rfl⟩ B
        exact SqL.of (B.get told)
      · rintro Dc k x acc M H hx ⟨rfl, rfl⟩ B
        unfold ixs at hx
        rw [List.getElem?_map, List.getElem?_map] at hx
        cases ej : js[k]? with
        | none => rw [ej] at hx; cases hx
        | some j =>
          rw [ej] at hx
          have hx : V.int (j : Int) = x := Option.some.inj hx
          subst hx
          have hj := C.lt j (List.mem_of_getElem? ej)
          have et : ts[j]? = some (ts[j]'(by omega)) := List.getElem?_eq_getElem _
          repeat infer_instance
          refine iteT ?_
          repeat infer_instance
          refine s_ixH (F.fc _ B.tail.tail).top (by rw [List.getElem?_map, et]; rfl) ?_
          refine s_el (M := .ob told (.lst ((ixs js).map V.int)) :: W) B ?_ ⟨?_, rfl⟩
          · rw [List.length_map]
            have h1 : (pk ts (js.take k)).length ≤ (js.take k).length := List.length_filterMap_le _ _
            have h2 := (List.take_sublist k js).length_le
            unfold sizeLine
            omega
          · rw [List.take_add_one, ej, pk_app, List.map_append]
            show _ = _ ++ (pk ts [j]).map V.ref
            rw [pk_one et]; rfl
      rintro ps acc M H ⟨rfl, rfl⟩ B
      have e9 : js.take ((ixs js).map V.int).length = js := List.take_of_length_le (by rw [List.length_map]; unfold ixs; rw [List.length_map]; exact Nat.le_refl _)
      rw [e9] at B
      have hpl : (pk ts js).length = js.length := pk_len fun j hj => by rw [hts]; exact C.lt j hj
      repeat infer_instance
      refine u_group B (F.more.pick C.lt (by omega)) (fun _ H B => ?_) (fun z => absurd C.bad z)
      repeat infer_instance
      refine ⟨rfl, ?_⟩
      repeat infer_instance
      refine iteF ?_
      repeat infer_instance
      refine s_srtSet B (B.get told) (by omega) fun zs p3 H h1 h2 B => ?_
      have ez : zs = ixs js := srt_self h1 (by unfold ixs; rw [List.pairwise_map]; exact C.asc.imp fun z => by omega) h2
      subst ez
      repeat infer_instance
      refine s_neDI (B.get p3) (B.get told) ?_
      rw [decide_eq_true rfl]
      repeat infer_instance
      refine iteF ?_
      have B := B.tail
      repeat infer_instance
      refine u_isContra B F.more.more (fun H' B' => B'.get told) (by omega) fun H x hx B => ?_
      rw [hx.mpr ⟨_, rfl, C⟩]
      repeat infer_instance
      refine iteF ?_
      repeat infer_instance
      refine s_slL B (B.get told) fun s1 H B => ?_
      have e1 : cutV ((ixs js).map V.int) (some 1) none = (ixs (js.drop 1)).map V.int := (cut_fromM 1).trans (by unfold ixs; rw [List.map_drop, List.map_drop])
      rw [e1] at B
      have hno : ¬ ∃ js', ixs (js.drop 1) = ixs js' ∧ IsContra ns fs js' := by
        rintro ⟨js', e, C'⟩
        have := ixs_inj e
        subst this
        obtain ⟨j0, jr, rfl⟩ := List.exists_cons_of_ne_nil hne
        have hmin := C.min j0 (List.mem_cons_self ..)
        rw [flt_at hjd (n := 0) (j := j0) rfl] at hmin
        exact hmin C'.bad
      repeat infer_instance
      refine u_isContra B F.more.more.more (fun H' B' => B'.get s1) (by unfold ixs; rw [List.length_map, List.length_drop]; omega) fun H x hx B => ?_
      have ex : x = false := by
        cases x with
        | false => rfl
        | true => exact absurd (hx.mp rfl) hno
      subst ex
      have B := B.tail
      repeat infer_instance
      refine iteF ?_
      repeat infer_instance
      rw [List.length_map, hpl]
      refine s_itR (by omega) (by omega) ?_
      rw [Int.toNat_natCast]
      refine s_lcR (fun i acc M => acc = [] ∧ M = .ob ps (.lst ((pk ts js).map V.ref)) :: .ob told (.lst ((ixs js).map V.int)) :: W) B ⟨rfl, rfl⟩ (fun _ => rfl) ?_ ?_
      · rintro Dc i acc M H hi ⟨rfl, rfl⟩ B
        obtain ⟨j, ej⟩ : ∃ j, js[i]? = some j := ⟨js[i], List.getElem?_eq_getElem hi⟩
        have hcat : ((pk ts js).map V.ref).take i ++ ((pk ts js).map V.ref).drop (i + 1) = (pk ts (js.filter (· != j))).map V.ref := by
          rw [flt_at hjd ej, pk_split (fun j hj => by rw [hts]; exact C.lt j hj), List.map_append, List.map_take, List.map_drop]
        repeat infer_instance
        refine s_slL B (B.get ps) fun s1 H B => ?_
        rw [cut_to i] at B
        repeat infer_instance
        refine s_slL B (B.get ps) fun s2 H B => ?_
        have ei : (i : Int) + 1 = ((i + 1 : Nat) : Int) := by omega
        rw [ei, cut_fromM] at B
        repeat infer_instance
        refine s_cat B (B.get s1) (B.get s2) (by rw [List.length_take, List.length_drop, List.length_map]; unfold sizeLine; omega) fun cp H B => ?_
        rw [hcat] at B
        repeat infer_instance
        refine u_group B (F.more.more.more.more.more.pick (fun j hj => C.lt j (List.mem_filter.mp hj).1) (Nat.le_trans (List.length_filter_le ..) (by omega))) (fun z => absurd z (C.min j (List.mem_of_getElem? ej))) fun _ d H B => ?_
        repeat infer_instance
        refine ⟨rfl, ?_⟩
        refine ⟨_, rfl, ?_⟩
        refine iteF ?_
        have B := B.tail.tail.tail
        exact NoEl.mk (M := .ob ps (.lst ((pk ts js).map V.ref)) :: .ob told (.lst ((ixs js).map V.int)) :: W) B ⟨rfl, rfl⟩
      rintro pl acc M H ⟨rfl, rfl⟩ B
      repeat infer_instance
      refine s_newL B (Nat.zero_le _) fun l H B => ?_
      have e1 : H pl = some (.lst (([] : List Int).map V.int)) := B.get pl
      have e2 : H l = some (.lst (([] : List Int).map V.int)) := B.get l
      refine s_eqDI e1 e2 ?_
      rw [decide_eq_true rfl]
      exact hEnd (c := [_, _, _, _]) B
end
end My
namespace My
open PySem PySem.Spec PyProof.Rows L2 LamX
local macro_rules | `(tactic| infer_instance) => `(tactic| first
  | with_reducible refine s_var (by with_unfolding_all exact rfl) ?_
  | with_reducible apply s_C
  | with_reducible apply s_op
  | with_reducible apply s_i0
  | with_reducible apply s_seq
  | with_reducible apply s_asg
  | with_reducible apply s_gn
  | with_reducible apply s_nil
  | with_reducible apply s_cons
  | with_reducible apply s_cb
  | with_reducible apply s_call
  | with_reducible apply s_un
  | with_reducible apply s_u
  | with_reducible apply s_test
  | with_reducible apply s_blV
  | with_reducible apply s_eqI
  | with_reducible apply s_neI
  | with_reducible apply s_ifs
  | with_reducible apply s_drop
  | with_reducible apply s_ret
  | with_reducible apply s_lst
  | with_reducible apply s_tup
  | with_reducible apply s_and
  | with_reducible apply s_or
  | with_reducible apply s_not
  | with_reducible apply s_tB
  | with_reducible apply s_bm
  | with_reducible apply s_bm0
  | with_reducible apply s_for
  | with_reducible apply s_iList
  | with_reducible apply s_iTup
  | with_reducible apply s_mndS
  | with_reducible apply s_srtS
  | with_reducible apply s_lc2S
  | with_reducible apply s_remS
  | with_reducible apply s_iRng
  | with_reducible apply s_iEnum
  | with_reducible apply s_iRng3
  | with_reducible apply s_iZip
  | with_reducible apply s_iZip3
  | with_reducible apply s_iRev
  | with_reducible apply s_get2S
  | with_reducible apply s_iEZ
  | with_reducible apply s_sl
  | with_reducible apply s_noPart
  | with_reducible apply s_part
  | with_reducible apply s_partI
  | with_reducible apply s_neS
  | with_reducible apply s_eqS
  | with_reducible apply s_lc
  | with_reducible apply s_dc
  | with_reducible apply s_dg
  | with_reducible apply s_di
  | with_reducible apply s_dni
  | with_reducible apply s_yes
  | with_reducible apply s_chain
  | with_reducible refine s_aug (by with_unfolding_all exact rfl) ?_
  | with_reducible apply s_ip
  | with_reducible apply s_revL
  | with_reducible apply s_gsub
  | with_reducible apply s_gslc
  | with_reducible apply s_parS
  | with_reducible apply s_par
  | with_reducible apply s_gc
  | with_reducible apply s_gnil
  | with_reducible apply s_brk
  | with_reducible apply s_cnt
  | with_reducible apply s_next
  | with_reducible apply s_andV
  | with_reducible apply s_orV
  | with_reducible apply s_notV
  | with_reducible apply s_isB
  | with_reducible apply s_notB
  | with_reducible apply s_max2
  | with_reducible apply s_min2
  | with_reducible apply s_abs
  | with_reducible apply s_intB
  | (with_reducible refine s_len (by assumption) ?_)
  | (with_reducible refine s_lenF (by assumption) ?_)
  | (with_reducible refine s_ty (by assumption) ?_)
  | (with_reducible refine s_tyF (by assumption) ?_)
  | (with_reducible refine s_i (by first | decide | exact cpow_ok (by decide) (by decide) (by decide) | exact cdivw (by decide) (by decide) | exact cmul_l (by decide) (by decide) | exact cmul_r (by decide) (by decide) | omega | exact cmul_l (by omega) (by omega) | exact cmul_r (by omega) (by omega)) ?_))

abbrev nLaw : List Str := ["script", "k", "pot", "turn", "result"]
theorem scLaw : FnScope nLaw ["script"] (defScope sLaw) := ⟨rfl, rfl, rfl, by decide +kernel, rfl, by decide +kernel, by decide +kernel⟩

section
variable {P : Program} {w : World} {K : PySem.W.Frag} {mg : Str → Option Value} {base : Heap}
def spLaw (K : PySem.W.Frag) (T : List (Addr × Str)) : Sp := fun vs H Q _ => ∃ (a : Addr) (ns : List Int), vs = [.ref a] ∧ SqL K H a (ns.map V.int) ∧ ns.length ≤ 63 ∧ Tabs T H ∧ ∀ H', Q (.bl true) H'
set_option maxHeartbeats 0 in
theorem ok_Law {T : List (Addr × Str)} {f : Addr} {fd : FuncData} {k : Nat} (F : Fun K "law" "law" sLaw f fd) (Tx : Txt mg) (C_contradiction_of : Cal P w K mg base k "contradiction_of" ["result", "facts"] spContradictionOf) (C__law_pot : Cal P w K mg base k "_law_pot" ["script", "k"] (spLawPot K)) (C__law_take : Cal P w K mg base k "_law_take" ["pot", "many"] spLawTake) (C__law_facts : Cal P w K mg base k "_law_facts" ["pot", "result", "many"] spLawFacts) (C__law_short : Cal P w K mg base k "_law_short" ["pot", "most"] spLawShort) (C__law_right : CalG P w K mg base k "_law_right" ["result", "facts"] spLawRight) (C__law_great_right : Cal P w K mg base k "_law_great_right" ["pot"] spLawGreatRight) : FnG P w K mg base (k + 1) f fd ["script"] (spLaw K T) := by
  refine okG F scLaw (fun vs H Q E h => ?_) (fun cdv A outer s H0 vs Q E gu hr h => ?_)
  · obtain ⟨a, ns, rfl, _⟩ := h
    rfl
  · obtain ⟨sa, sns, rfl, hS, hl, tb, q⟩ := h
    refine ⟨_, (pss_cons (ps_for PassesOwn.never rfl (pi_range1 (by rfl) Tx.range (pa_cons (pe_callB (cl_max2 (by rfl)) (by rfl) Tx.max (by decide +kernel) (pa_cons pe_int (pa_cons (pe_callB (cl_min2 (by rfl)) (by rfl) Tx.min (by decide +kernel) (pa_cons pe_int (pa_cons (pe_callB (cl_len) (by rfl) Tx.len (by decide +kernel) (pa_cons (pv 0) pa_nil)) pa_nil))) pa_nil))) pa_nil)) (pg_name (i := 1) scLaw.nd rfl (Or.inl rfl))
  (pss_cons (ps_set (i := 2) scLaw.nd rfl (.inl rfl) (pe_cal C__law_pot hr (by rfl) (pa_cons (pv 0) (pa_cons (pv 1) pa_nil))))
 (pss_cons (ps_for PassesOwn.never rfl (pi_range1 (by rfl) Tx.range (pa_cons pe_int pa_nil)) (pg_name (i := 3) scLaw.nd rfl (Or.inl rfl))
  (pss_cons (ps_set (i := 4) scLaw.nd rfl (.inl rfl) (pe_cal C__law_short hr (by rfl) (pa_cons (pv 2) (pa_cons (pe_ix ix_list (pe_lst (pa_cons pe_int (pa_cons pe_int pa_nil))) (pe_cal C__law_take hr (by rfl) (pa_cons (pv 2) (pa_cons pe_int pa_nil))) (fun _ _ => rfl)) pa_nil))))
 (pss_one (ps_if (pt_not (pt_val (pe_calG C__law_right hr gu (by rfl) (pa_cons (pv 4) (pa_cons (pe_cal C__law_facts hr (by rfl) (pa_cons (pv 2) (pa_cons (pv 4) (pa_cons pe_int pa_nil)))) pa_nil)))))
  (pss_one (ps_ret pe_bl)) pss_nil))))
 (pss_one (ps_if (pt_not (pt_val (pe_cal C__law_great_right hr (by rfl) (pa_cons (pv 2) pa_nil))))
  (pss_one (ps_ret pe_bl)) pss_nil)))))
 (pss_one (ps_ret (pe_and (pe_cmpR op_isN (pe_cal C_contradiction_of hr (by rfl) (pa_cons (pe_lst pa_nil) (pa_cons (pe_lst pa_nil) pa_nil))) pe_non (by rfl)) (pe_one (pe_cmpR (op_eqD hr.units) (pe_cal C_contradiction_of hr (by rfl) (pa_cons (pe_lst (pa_cons pe_int (pa_cons pe_int pa_nil))) (pa_cons (pe_lst (pa_cons (pe_tup (pa_cons pe_str (pa_cons pe_int (pa_cons pe_int pa_nil)))) (pa_cons (pe_tup (pa_cons pe_str (pa_cons pe_int (pa_cons pe_int pa_nil)))) pa_nil))) pa_nil))) (pe_lst (pa_cons pe_int (pa_cons pe_int pa_nil))) (nomark _))))))), ?_⟩
    have B : Own H0 H0 T [] := Own.start tb
    repeat infer_instance
    refine s_lenS hS ?_
    repeat infer_instance
    refine s_itR (by split <;> (try split) <;> omega) (by split <;> (try split) <;> omega) ?_
    refine s_forR (fun i σ M => (∃ y1 y2 y3 y4 : Option V, σ = [some (.ref sa), y1, y2, y3, y4]) ∧ M = []) B ⟨⟨none, none, none, none, rfl⟩, rfl⟩ ?_ ?_
    · rintro k σ M H hk ⟨⟨y1, y2, y3, y4, rfl⟩, rfl⟩ B
      have hS2 := xsq B.ex hS
      have hk3 : k ≤ 100 := by
        have z : (if (if ((sns.map V.int).length : Int) < 3 then ((sns.map V.int).length : Int) else 3) > 1 then (if ((sns.map V.int).length : Int) < 3 then ((sns.map V.int).length : Int) else 3) else 1 : Int) ≤ 3 := by
          split <;> (try split) <;> omega
        omega
      repeat infer_instance
      refine ⟨_, _, _, sa, sns, k, rfl, B, hS2, by omega, fun D H B => ?_⟩
      repeat infer_instance
      refine s_itR (by decide) (by decide) ?_
      refine s_forR (fun j σ M => (∃ y3 y4 : Option V, σ = [some (.ref sa), some (.int (k : Int)), some (.ref D), y3, y4]) ∧ M = [.pr D (CanO (3000 * j))]) B ⟨⟨_, _, rfl⟩, rfl⟩ ?_ ?_
      · rintro j σ M H hj ⟨⟨y3, y4, rfl⟩, rfl⟩ B
        have hj : j < 4 := hj
        repeat infer_instance
        refine s_newL B (show 2 ≤ sizeLine by decide) fun l0 H B => ?_
        repeat infer_instance
        refine u_take B (by omega) (by decide) (by decide) fun v0 H B hv0 => ?_
        obtain ⟨m0, hat0, hm0⟩ : ∃ m : Nat, atI [V.int 4, V.int 7] (v0 : Int) = some (.int (m : Int)) ∧ m ≤ 7 := by
          rcases (show v0 = 0 ∨ v0 = 1 by omega) with rfl | rfl
          · exact ⟨4, rfl, by omega⟩
          · exact ⟨7, rfl, by omega⟩
        repeat infer_instance
        refine s_ix B hat0 ?_
        have B : Own H0 H T [.pr D (CanO (3000 * j + 1))] := B.arr
        repeat infer_instance
        refine u_short B (by omega) fun p ns H nd hl10 wd hcm B => ?_
        have B : Own H0 H T (.pr D (CanO (3000 * j + 1 + 1001)) :: .ob p (.lst (ns.map V.int)) :: []) := B.arr
        repeat infer_instance
        refine u_lfacts (many := 7) B (fun H' B' => B'.get p) nd (by omega) (by decide) (by omega) fun fa ts fs N H hfl F B => ?_
        repeat infer_instance
        refine ⟨_, _, _, p, fa, ns, ts, fs, rfl, B, F.more, wd, by omega, by omega, by omega, fun H B => ?_⟩
        repeat infer_instance
        refine iteF ?_
        have B1 := B.perm (List.perm_middle (l₁ := N) (a := .pr D (CanO (3000 * j + 1 + 1001 + 1000)))).symm
        have B2 : Own H0 H T [.pr D (CanO (3000 * j + 1 + 1001 + 1000))] := (Own.offN B1).arr
        have B3 := B2.upH (show 3000 * j + 1 + 1001 + 1000 ≤ 3000 * (j + 1) by omega)
        repeat infer_instance
        exact s_inn B3 ⟨⟨_, _, rfl⟩, rfl⟩
      · rintro σ M H ⟨⟨y3, y4, rfl⟩, rfl⟩ B
        repeat infer_instance
        refine ⟨_, _, _, D, _, rfl, B, by decide, fun H B => ?_⟩
        repeat infer_instance
        refine iteF ?_
        repeat infer_instance
        exact s_inn (M := []) B ⟨⟨_, _, _, _, rfl⟩, rfl⟩
    · rintro σ M H ⟨⟨y1, y2, y3, y4, rfl⟩, rfl⟩ B
      repeat infer_instance
      refine s_newL B (Nat.zero_le _) fun e1 H B => ?_
      repeat infer_instance
      refine s_newL B (Nat.zero_le _) fun e2 H B => ?_
      repeat infer_instance
      refine u_contraOf (ns := []) (ts := []) (fs := []) B ⟨fun H' B' => B'.get e1, fun H' B' => ⟨B'.get e2, rfl, fun i t f h => by simp at h⟩, List.nodup_nil, by decide, (fun f h => nomatch h), by decide⟩ (fun hd H B => ?_) (fun hd => absurd hd (by decide +kernel))
      repeat infer_instance
      refine ⟨rfl, ?_⟩
      refine ⟨_, rfl, ?_⟩
      refine iteT ?_
      repeat infer_instance
      refine s_newL B (show 2 ≤ sizeLine by decide) fun a1 H B => ?_
      repeat infer_instance
      refine s_newT B (show 3 ≤ sizeLine by decide) fun t1 H B => ?_
      repeat infer_instance
      refine s_newT B (show 3 ≤ sizeLine by decide) fun t2 H B => ?_
      repeat infer_instance
      refine s_newL B (show 2 ≤ sizeLine by decide) fun b1 H B => ?_
      repeat infer_instance
      have hdue : dueF [2, 1] [fc "in" 1 1, fc "in" 2 0] = [] := by decide +kernel
      have hlc : lcF [2, 1] [fc "in" 1 1, fc "in" 2 0] = [0, 1] := by decide +kernel
      refine u_contraOf (ns := [2, 1]) (ts := [t1, t2]) (fs := [fc "in" 1 1, fc "in" 2 0]) B ⟨fun H' B' => B'.get a1, fun H' B' => ⟨B'.get b1, rfl, fun i t f h1 h2 => ?_⟩, by decide, by decide, fun f h => ?_, by decide⟩ (fun hd => absurd hdue hd) (fun _ p H B => ?_)
      · match i, h1, h2 with
        | 0, h1, h2 => cases h1; cases h2; exact B'.get t1
        | 1, h1, h2 => cases h1; cases h2; exact B'.get t2
      · rcases List.mem_cons.mp h with rfl | h
        · exact ⟨by decide, .inl ⟨rfl, .inr rfl⟩⟩
        · rw [List.mem_singleton.mp h]
          exact ⟨by decide, .inl ⟨rfl, .inl rfl⟩⟩
      rw [hlc] at B
      repeat infer_instance
      refine s_newL B (show 2 ≤ sizeLine by decide) fun l H B => ?_
      refine s_eqDI (ns := ixs [0, 1]) (ms := [0, 1]) (B.get p) (B.get l) ?_
      exact q H
end
end My
namespace My
open PySem PySem.Spec PyProof.Rows L2 LamX
/-! what the top has written, read by name -/
set_option maxHeartbeats 0 in
theorem all_in {l : PySem.W.OpenLaw} {w : World} {K : PySem.W.Frag} {h : Heap} {mg : Str → Option Value} {fa f1 f2 f3 f4 f5 f6 f7 f8 f9 f10 f11 f12 f13 f14 f15 f16 f17 f18 f19 f20 f21 f22 f23 f24 f25 f26 f27 f28 f29 f30 f31 f32 f33 f34 : Addr}
    (X : K.In h) (G : h.Ns mainGlobals mg) (hfa : mg "law" = some (.ref fa))
    {od1 an1 od2 an2 od3 an3 od4 an4 od5 an5 od6 an6 od7 an7 od8 an8 od9 an9 od10 an10 od11 an11 od12 an12 od13 an13 od14 an14 od15 an15 od16 an16 od17 an17 od18 an18 od19 an19 od20 an20 od21 an21 od22 an22 od23 an23 od24 an24 od25 an25 od26 an26 od27 an27 od28 an28 od29 an29 od30 an30 od31 an31 od32 an32 od33 an33 od34 an34 : Option Addr}
    {sl1 sl2 sl3 sl4 sl5 sl6 sl7 sl8 sl9 sl10 sl11 sl12 sl13 sl14 sl15 sl16 sl17 sl18 sl19 sl20 sl21 sl22 sl23 sl24 sl25 sl26 sl27 sl28 sl29 sl30 sl31 sl32 sl33 sl34 : Array (Option Value)}
    {oc1 kV1 dc1 pm1 ct1 cd1 oc2 kV2 dc2 pm2 ct2 cd2 oc3 kV3 dc3 pm3 ct3 cd3 oc4 kV4 dc4 pm4 ct4 cd4 oc5 kV5 dc5 pm5 ct5 cd5 oc6 kV6 dc6 pm6 ct6 cd6 oc7 kV7 dc7 pm7 ct7 cd7 oc8 kV8 dc8 pm8 ct8 cd8 oc9 kV9 dc9 pm9 ct9 cd9 oc10 kV10 dc10 pm10 ct10 cd10 oc11 kV11 dc11 pm11 ct11 cd11 oc12 kV12 dc12 pm12 ct12 cd12 oc13 kV13 dc13 pm13 ct13 cd13 oc14 kV14 dc14 pm14 ct14 cd14 oc15 kV15 dc15 pm15 ct15 cd15 oc16 kV16 dc16 pm16 ct16 cd16 oc17 kV17 dc17 pm17 ct17 cd17 oc18 kV18 dc18 pm18 ct18 cd18 oc19 kV19 dc19 pm19 ct19 cd19 oc20 kV20 dc20 pm20 ct20 cd20 oc21 kV21 dc21 pm21 ct21 cd21 oc22 kV22 dc22 pm22 ct22 cd22 oc23 kV23 dc23 pm23 ct23 cd23 oc24 kV24 dc24 pm24 ct24 cd24 oc25 kV25 dc25 pm25 ct25 cd25 oc26 kV26 dc26 pm26 ct26 cd26 oc27 kV27 dc27 pm27 ct27 cd27 oc28 kV28 dc28 pm28 ct28 cd28 oc29 kV29 dc29 pm29 ct29 cd29 oc30 kV30 dc30 pm30 ct30 cd30 oc31 kV31 dc31 pm31 ct31 cd31 oc32 kV32 dc32 pm32 ct32 cd32 oc33 kV33 dc33 pm33 ct33 cd33 oc34 kV34 dc34 pm34 ct34 cd34 : Value}
    (a1 : PySem.W.nsIn K mainGlobals "is_integer" = some (some (.ref f1)))
    (l1 : K.lookup f1 = some ⟨oc1, od1, .func (PySem.W.fnOf "is_integer" "is_integer" (defArgs sInt) (defBody sInt) (defScope sInt) .none kV1 dc1 pm1 an1 cd1 ct1), sl1⟩)
    (c1 : PySem.W.codeIn K cd1 "is_integer" = true) (k1 : PySem.W.keepIn K (.ref f1) = true)
    (a2 : PySem.W.nsIn K mainGlobals "is_index" = some (some (.ref f2)))
    (l2 : K.lookup f2 = some ⟨oc2, od2, .func (PySem.W.fnOf "is_index" "is_index" (defArgs sIsIndex) (defBody sIsIndex) (defScope sIsIndex) .none kV2 dc2 pm2 an2 cd2 ct2), sl2⟩)
    (c2 : PySem.W.codeIn K cd2 "is_index" = true) (k2 : PySem.W.keepIn K (.ref f2) = true)
    (a3 : PySem.W.nsIn K mainGlobals "is_numbers" = some (some (.ref f3)))
    (l3 : K.lookup f3 = some ⟨oc3, od3, .func (PySem.W.fnOf "is_numbers" "is_numbers" (defArgs sNums) (defBody sNums) (defScope sNums) .none kV3 dc3 pm3 an3 cd3 ct3), sl3⟩)
    (c3 : PySem.W.codeIn K cd3 "is_numbers" = true) (k3 : PySem.W.keepIn K (.ref f3) = true)
    (a4 : PySem.W.nsIn K mainGlobals "is_ascending" = some (some (.ref f4)))
    (l4 : K.lookup f4 = some ⟨oc4, od4, .func (PySem.W.fnOf "is_ascending" "is_ascending" (defArgs sIsAscending) (defBody sIsAscending) (defScope sIsAscending) .none kV4 dc4 pm4 an4 cd4 ct4), sl4⟩)
    (c4 : PySem.W.codeIn K cd4 "is_ascending" = true) (k4 : PySem.W.keepIn K (.ref f4) = true)
    (a5 : PySem.W.nsIn K mainGlobals "are_indices" = some (some (.ref f5)))
    (l5 : K.lookup f5 = some ⟨oc5, od5, .func (PySem.W.fnOf "are_indices" "are_indices" (defArgs sAreIndices) (defBody sAreIndices) (defScope sAreIndices) .none kV5 dc5 pm5 an5 cd5 ct5), sl5⟩)
    (c5 : PySem.W.codeIn K cd5 "are_indices" = true) (k5 : PySem.W.keepIn K (.ref f5) = true)
    (a6 : PySem.W.nsIn K mainGlobals "require_numbers" = some (some (.ref f6)))
    (l6 : K.lookup f6 = some ⟨oc6, od6, .func (PySem.W.fnOf "require_numbers" "require_numbers" (defArgs sReq) (defBody sReq) (defScope sReq) .none kV6 dc6 pm6 an6 cd6 ct6), sl6⟩)
    (c6 : PySem.W.codeIn K cd6 "require_numbers" = true) (k6 : PySem.W.keepIn K (.ref f6) = true)
    (a7 : PySem.W.nsIn K mainGlobals "split_blocks" = some (some (.ref f7)))
    (l7 : K.lookup f7 = some ⟨oc7, od7, .func (PySem.W.fnOf "split_blocks" "split_blocks" (defArgs sSplit) (defBody sSplit) (defScope sSplit) .none kV7 dc7 pm7 an7 cd7 ct7), sl7⟩)
    (c7 : PySem.W.codeIn K cd7 "split_blocks" = true) (k7 : PySem.W.keepIn K (.ref f7) = true)
    (a8 : PySem.W.nsIn K mainGlobals "is_number_of" = some (some (.ref f8)))
    (l8 : K.lookup f8 = some ⟨oc8, od8, .func (PySem.W.fnOf "is_number_of" "is_number_of" (defArgs sIsNumberOf) (defBody sIsNumberOf) (defScope sIsNumberOf) .none kV8 dc8 pm8 an8 cd8 ct8), sl8⟩)
    (c8 : PySem.W.codeIn K cd8 "is_number_of" = true) (k8 : PySem.W.keepIn K (.ref f8) = true)
    (a9 : PySem.W.nsIn K mainGlobals "is_fact" = some (some (.ref f9)))
    (l9 : K.lookup f9 = some ⟨oc9, od9, .func (PySem.W.fnOf "is_fact" "is_fact" (defArgs sIsFact) (defBody sIsFact) (defScope sIsFact) .none kV9 dc9 pm9 an9 cd9 ct9), sl9⟩)
    (c9 : PySem.W.codeIn K cd9 "is_fact" = true) (k9 : PySem.W.keepIn K (.ref f9) = true)
    (a10 : PySem.W.nsIn K mainGlobals "all_facts" = some (some (.ref f10)))
    (l10 : K.lookup f10 = some ⟨oc10, od10, .func (PySem.W.fnOf "all_facts" "all_facts" (defArgs sAllFacts) (defBody sAllFacts) (defScope sAllFacts) .none kV10 dc10 pm10 an10 cd10 ct10), sl10⟩)
    (c10 : PySem.W.codeIn K cd10 "all_facts" = true) (k10 : PySem.W.keepIn K (.ref f10) = true)
    (a11 : PySem.W.nsIn K mainGlobals "require_facts" = some (some (.ref f11)))
    (l11 : K.lookup f11 = some ⟨oc11, od11, .func (PySem.W.fnOf "require_facts" "require_facts" (defArgs sRequireFacts) (defBody sRequireFacts) (defScope sRequireFacts) .none kV11 dc11 pm11 an11 cd11 ct11), sl11⟩)
    (c11 : PySem.W.codeIn K cd11 "require_facts" = true) (k11 : PySem.W.keepIn K (.ref f11) = true)
    (a12 : PySem.W.nsIn K mainGlobals "nodes_of" = some (some (.ref f12)))
    (l12 : K.lookup f12 = some ⟨oc12, od12, .func (PySem.W.fnOf "nodes_of" "nodes_of" (defArgs sNodesOf) (defBody sNodesOf) (defScope sNodesOf) .none kV12 dc12 pm12 an12 cd12 ct12), sl12⟩)
    (c12 : PySem.W.codeIn K cd12 "nodes_of" = true) (k12 : PySem.W.keepIn K (.ref f12) = true)
    (a13 : PySem.W.nsIn K mainGlobals "link_of" = some (some (.ref f13)))
    (l13 : K.lookup f13 = some ⟨oc13, od13, .func (PySem.W.fnOf "link_of" "link_of" (defArgs sLinkOf) (defBody sLinkOf) (defScope sLinkOf) .none kV13 dc13 pm13 an13 cd13 ct13), sl13⟩)
    (c13 : PySem.W.codeIn K cd13 "link_of" = true) (k13 : PySem.W.keepIn K (.ref f13) = true)
    (a14 : PySem.W.nsIn K mainGlobals "join_groups" = some (some (.ref f14)))
    (l14 : K.lookup f14 = some ⟨oc14, od14, .func (PySem.W.fnOf "join_groups" "join_groups" (defArgs sJoinGroups) (defBody sJoinGroups) (defScope sJoinGroups) .none kV14 dc14 pm14 an14 cd14 ct14), sl14⟩)
    (c14 : PySem.W.codeIn K cd14 "join_groups" = true) (k14 : PySem.W.keepIn K (.ref f14) = true)
    (a15 : PySem.W.nsIn K mainGlobals "solve" = some (some (.ref f15)))
    (l15 : K.lookup f15 = some ⟨oc15, od15, .func (PySem.W.fnOf "solve" "solve" (defArgs sSolve) (defBody sSolve) (defScope sSolve) .none kV15 dc15 pm15 an15 cd15 ct15), sl15⟩)
    (c15 : PySem.W.codeIn K cd15 "solve" = true) (k15 : PySem.W.keepIn K (.ref f15) = true)
    (a16 : PySem.W.nsIn K mainGlobals "contradict" = some (some (.ref f16)))
    (l16 : K.lookup f16 = some ⟨oc16, od16, .func (PySem.W.fnOf "contradict" "contradict" (defArgs sContradict) (defBody sContradict) (defScope sContradict) .none kV16 dc16 pm16 an16 cd16 ct16), sl16⟩)
    (c16 : PySem.W.codeIn K cd16 "contradict" = true) (k16 : PySem.W.keepIn K (.ref f16) = true)
    (a17 : PySem.W.nsIn K mainGlobals "least_contradiction" = some (some (.ref f17)))
    (l17 : K.lookup f17 = some ⟨oc17, od17, .func (PySem.W.fnOf "least_contradiction" "least_contradiction" (defArgs sLeastContradiction) (defBody sLeastContradiction) (defScope sLeastContradiction) .none kV17 dc17 pm17 an17 cd17 ct17), sl17⟩)
    (c17 : PySem.W.codeIn K cd17 "least_contradiction" = true) (k17 : PySem.W.keepIn K (.ref f17) = true)
    (a18 : PySem.W.nsIn K mainGlobals "contradiction_of" = some (some (.ref f18)))
    (l18 : K.lookup f18 = some ⟨oc18, od18, .func (PySem.W.fnOf "contradiction_of" "contradiction_of" (defArgs sContradictionOf) (defBody sContradictionOf) (defScope sContradictionOf) .none kV18 dc18 pm18 an18 cd18 ct18), sl18⟩)
    (c18 : PySem.W.codeIn K cd18 "contradiction_of" = true) (k18 : PySem.W.keepIn K (.ref f18) = true)
    (a19 : PySem.W.nsIn K mainGlobals "is_contradiction" = some (some (.ref f19)))
    (l19 : K.lookup f19 = some ⟨oc19, od19, .func (PySem.W.fnOf "is_contradiction" "is_contradiction" (defArgs sIsContradiction) (defBody sIsContradiction) (defScope sIsContradiction) .none kV19 dc19 pm19 an19 cd19 ct19), sl19⟩)
    (c19 : PySem.W.codeIn K cd19 "is_contradiction" = true) (k19 : PySem.W.keepIn K (.ref f19) = true)
    (a20 : PySem.W.nsIn K mainGlobals "_law_pot" = some (some (.ref f20)))
    (l20 : K.lookup f20 = some ⟨oc20, od20, .func (PySem.W.fnOf "_law_pot" "_law_pot" (defArgs sLawPot) (defBody sLawPot) (defScope sLawPot) .none kV20 dc20 pm20 an20 cd20 ct20), sl20⟩)
    (c20 : PySem.W.codeIn K cd20 "_law_pot" = true) (k20 : PySem.W.keepIn K (.ref f20) = true)
    (a21 : PySem.W.nsIn K mainGlobals "_law_take" = some (some (.ref f21)))
    (l21 : K.lookup f21 = some ⟨oc21, od21, .func (PySem.W.fnOf "_law_take" "_law_take" (defArgs sLawTake) (defBody sLawTake) (defScope sLawTake) .none kV21 dc21 pm21 an21 cd21 ct21), sl21⟩)
    (c21 : PySem.W.codeIn K cd21 "_law_take" = true) (k21 : PySem.W.keepIn K (.ref f21) = true)
    (a22 : PySem.W.nsIn K mainGlobals "_law_some" = some (some (.ref f22)))
    (l22 : K.lookup f22 = some ⟨oc22, od22, .func (PySem.W.fnOf "_law_some" "_law_some" (defArgs sLawSome) (defBody sLawSome) (defScope sLawSome) .none kV22 dc22 pm22 an22 cd22 ct22), sl22⟩)
    (c22 : PySem.W.codeIn K cd22 "_law_some" = true) (k22 : PySem.W.keepIn K (.ref f22) = true)
    (a23 : PySem.W.nsIn K mainGlobals "_law_numbers" = some (some (.ref f23)))
    (l23 : K.lookup f23 = some ⟨oc23, od23, .func (PySem.W.fnOf "_law_numbers" "_law_numbers" (defArgs sLawNumbers) (defBody sLawNumbers) (defScope sLawNumbers) .none kV23 dc23 pm23 an23 cd23 ct23), sl23⟩)
    (c23 : PySem.W.codeIn K cd23 "_law_numbers" = true) (k23 : PySem.W.keepIn K (.ref f23) = true)
    (a24 : PySem.W.nsIn K mainGlobals "_law_blocks" = some (some (.ref f24)))
    (l24 : K.lookup f24 = some ⟨oc24, od24, .func (PySem.W.fnOf "_law_blocks" "_law_blocks" (defArgs sLawBlocks) (defBody sLawBlocks) (defScope sLawBlocks) .none kV24 dc24 pm24 an24 cd24 ct24), sl24⟩)
    (c24 : PySem.W.codeIn K cd24 "_law_blocks" = true) (k24 : PySem.W.keepIn K (.ref f24) = true)
    (a25 : PySem.W.nsIn K mainGlobals "_law_all_chosen" = some (some (.ref f25)))
    (l25 : K.lookup f25 = some ⟨oc25, od25, .func (PySem.W.fnOf "_law_all_chosen" "_law_all_chosen" (defArgs sLawAllChosen) (defBody sLawAllChosen) (defScope sLawAllChosen) .none kV25 dc25 pm25 an25 cd25 ct25), sl25⟩)
    (c25 : PySem.W.codeIn K cd25 "_law_all_chosen" = true) (k25 : PySem.W.keepIn K (.ref f25) = true)
    (a26 : PySem.W.nsIn K mainGlobals "_law_facts" = some (some (.ref f26)))
    (l26 : K.lookup f26 = some ⟨oc26, od26, .func (PySem.W.fnOf "_law_facts" "_law_facts" (defArgs sLawFacts) (defBody sLawFacts) (defScope sLawFacts) .none kV26 dc26 pm26 an26 cd26 ct26), sl26⟩)
    (c26 : PySem.W.codeIn K cd26 "_law_facts" = true) (k26 : PySem.W.keepIn K (.ref f26) = true)
    (a27 : PySem.W.nsIn K mainGlobals "_law_holds" = some (some (.ref f27)))
    (l27 : K.lookup f27 = some ⟨oc27, od27, .func (PySem.W.fnOf "_law_holds" "_law_holds" (defArgs sLawHolds) (defBody sLawHolds) (defScope sLawHolds) .none kV27 dc27 pm27 an27 cd27 ct27), sl27⟩)
    (c27 : PySem.W.codeIn K cd27 "_law_holds" = true) (k27 : PySem.W.keepIn K (.ref f27) = true)
    (a28 : PySem.W.nsIn K mainGlobals "_law_fitting" = some (some (.ref f28)))
    (l28 : K.lookup f28 = some ⟨oc28, od28, .func (PySem.W.fnOf "_law_fitting" "_law_fitting" (defArgs sLawFitting) (defBody sLawFitting) (defScope sLawFitting) .none kV28 dc28 pm28 an28 cd28 ct28), sl28⟩)
    (c28 : PySem.W.codeIn K cd28 "_law_fitting" = true) (k28 : PySem.W.keepIn K (.ref f28) = true)
    (a29 : PySem.W.nsIn K mainGlobals "_law_short" = some (some (.ref f29)))
    (l29 : K.lookup f29 = some ⟨oc29, od29, .func (PySem.W.fnOf "_law_short" "_law_short" (defArgs sLawShort) (defBody sLawShort) (defScope sLawShort) .none kV29 dc29 pm29 an29 cd29 ct29), sl29⟩)
    (c29 : PySem.W.codeIn K cd29 "_law_short" = true) (k29 : PySem.W.keepIn K (.ref f29) = true)
    (a30 : PySem.W.nsIn K mainGlobals "_law_is_minimal" = some (some (.ref f30)))
    (l30 : K.lookup f30 = some ⟨oc30, od30, .func (PySem.W.fnOf "_law_is_minimal" "_law_is_minimal" (defArgs sLawIsMinimal) (defBody sLawIsMinimal) (defScope sLawIsMinimal) .none kV30 dc30 pm30 an30 cd30 ct30), sl30⟩)
    (c30 : PySem.W.codeIn K cd30 "_law_is_minimal" = true) (k30 : PySem.W.keepIn K (.ref f30) = true)
    (a31 : PySem.W.nsIn K mainGlobals "_law_group" = some (some (.ref f31)))
    (l31 : K.lookup f31 = some ⟨oc31, od31, .func (PySem.W.fnOf "_law_group" "_law_group" (defArgs sLawGroup) (defBody sLawGroup) (defScope sLawGroup) .none kV31 dc31 pm31 an31 cd31 ct31), sl31⟩)
    (c31 : PySem.W.codeIn K cd31 "_law_group" = true) (k31 : PySem.W.keepIn K (.ref f31) = true)
    (a32 : PySem.W.nsIn K mainGlobals "_law_right" = some (some (.ref f32)))
    (l32 : K.lookup f32 = some ⟨oc32, od32, .func (PySem.W.fnOf "_law_right" "_law_right" (defArgs sLawRight) (defBody sLawRight) (defScope sLawRight) .none kV32 dc32 pm32 an32 cd32 ct32), sl32⟩)
    (c32 : PySem.W.codeIn K cd32 "_law_right" = true) (k32 : PySem.W.keepIn K (.ref f32) = true)
    (a33 : PySem.W.nsIn K mainGlobals "_law_great_right" = some (some (.ref f33)))
    (l33 : K.lookup f33 = some ⟨oc33, od33, .func (PySem.W.fnOf "_law_great_right" "_law_great_right" (defArgs sLawGreatRight) (defBody sLawGreatRight) (defScope sLawGreatRight) .none kV33 dc33 pm33 an33 cd33 ct33), sl33⟩)
    (c33 : PySem.W.codeIn K cd33 "_law_great_right" = true) (k33 : PySem.W.keepIn K (.ref f33) = true)
    (a34 : PySem.W.nsIn K mainGlobals "law" = some (some (.ref f34)))
    (l34 : K.lookup f34 = some ⟨oc34, od34, .func (PySem.W.fnOf "law" "law" (defArgs sLaw) (defBody sLaw) (defScope sLaw) .none kV34 dc34 pm34 an34 cd34 ct34), sl34⟩)
    (c34 : PySem.W.codeIn K cd34 "law" = true) (k34 : PySem.W.keepIn K (.ref f34) = true)
    (z1 : PySem.W.nsIn K mainGlobals "isinstance" = some none)
    (z2 : PySem.W.nsIn K mainGlobals "int" = some none)
    (z3 : PySem.W.nsIn K mainGlobals "bool" = some none)
    (z4 : PySem.W.nsIn K mainGlobals "list" = some none)
    (z5 : PySem.W.nsIn K mainGlobals "all" = some none)
    (z6 : PySem.W.nsIn K mainGlobals "len" = some none)
    (z7 : PySem.W.nsIn K mainGlobals "set" = some none)
    (z8 : PySem.W.nsIn K mainGlobals "max" = some none)
    (z9 : PySem.W.nsIn K mainGlobals "min" = some none)
    (z10 : PySem.W.nsIn K mainGlobals "range" = some none)
    (z11 : PySem.W.nsIn K mainGlobals "enumerate" = some none)
    (z12 : PySem.W.nsIn K mainGlobals "repr" = some none)
    (z13 : PySem.W.nsIn K mainGlobals "sorted" = some none)
    (z14 : PySem.W.nsIn K mainGlobals "tuple" = some none)
    (z15 : PySem.W.nsIn K mainGlobals "zip" = some none)
    (z16 : PySem.W.nsIn K mainGlobals "reversed" = some none)
    (z17 : PySem.W.nsIn K mainGlobals "sum" = some none)
    (z18 : PySem.W.nsIn K mainGlobals "str" = some none)
    (z19 : PySem.W.nsIn K mainGlobals "any" = some none)
    (z20 : PySem.W.nsIn K mainGlobals "abs" = some none)
    (z21 : PySem.W.nsIn K mainGlobals "divmod" = some none)
    (z22 : PySem.W.nsIn K mainGlobals "dict" = some none)
    : ∃ fd : FuncData, (∀ (s : Shared) (v : Value), BindsTo s fd ⟨[v], []⟩ [("script", v)]) ∧
      ∀ base : Heap, K.In base → base.Ns mainGlobals mg → FnG l.prog w K mg base 8 fa fd ["script"] (spLaw K []) := by
  have e := hfa.symm.trans (PySem.W.mg_of X G a34)
  cases e
  have F1 := fun_mk (st := sInt) l1 c1 k1
  have g1 := PySem.W.mg_of X G a1
  have F2 := fun_mk (st := sIsIndex) l2 c2 k2
  have g2 := PySem.W.mg_of X G a2
  have F3 := fun_mk (st := sNums) l3 c3 k3
  have g3 := PySem.W.mg_of X G a3
  have F4 := fun_mk (st := sIsAscending) l4 c4 k4
  have g4 := PySem.W.mg_of X G a4
  have F5 := fun_mk (st := sAreIndices) l5 c5 k5
  have g5 := PySem.W.mg_of X G a5
  have F6 := fun_mk (st := sReq) l6 c6 k6
  have g6 := PySem.W.mg_of X G a6
  have F7 := fun_mk (st := sSplit) l7 c7 k7
  have g7 := PySem.W.mg_of X G a7
  have F8 := fun_mk (st := sIsNumberOf) l8 c8 k8
  have g8 := PySem.W.mg_of X G a8
  have F9 := fun_mk (st := sIsFact) l9 c9 k9
  have g9 := PySem.W.mg_of X G a9
  have F10 := fun_mk (st := sAllFacts) l10 c10 k10
  have g10 := PySem.W.mg_of X G a10
  have F11 := fun_mk (st := sRequireFacts) l11 c11 k11
  have g11 := PySem.W.mg_of X G a11
  have F12 := fun_mk (st := sNodesOf) l12 c12 k12
  have g12 := PySem.W.mg_of X G a12
  have F13 := fun_mk (st := sLinkOf) l13 c13 k13
  have g13 := PySem.W.mg_of X G a13
  have F14 := fun_mk (st := sJoinGroups) l14 c14 k14
  have g14 := PySem.W.mg_of X G a14
  have F15 := fun_mk (st := sSolve) l15 c15 k15
  have g15 := PySem.W.mg_of X G a15
  have F16 := fun_mk (st := sContradict) l16 c16 k16
  have g16 := PySem.W.mg_of X G a16
  have F17 := fun_mk (st := sLeastContradiction) l17 c17 k17
  have g17 := PySem.W.mg_of X G a17
  have F18 := fun_mk (st := sContradictionOf) l18 c18 k18
  have g18 := PySem.W.mg_of X G a18
  have F19 := fun_mk (st := sIsContradiction) l19 c19 k19
  have g19 := PySem.W.mg_of X G a19
  have F20 := fun_mk (st := sLawPot) l20 c20 k20
  have g20 := PySem.W.mg_of X G a20
  have F21 := fun_mk (st := sLawTake) l21 c21 k21
  have g21 := PySem.W.mg_of X G a21
  have F22 := fun_mk (st := sLawSome) l22 c22 k22
  have g22 := PySem.W.mg_of X G a22
  have F23 := fun_mk (st := sLawNumbers) l23 c23 k23
  have g23 := PySem.W.mg_of X G a23
  have F24 := fun_mk (st := sLawBlocks) l24 c24 k24
  have g24 := PySem.W.mg_of X G a24
  have F25 := fun_mk (st := sLawAllChosen) l25 c25 k25
  have g25 := PySem.W.mg_of X G a25
  have F26 := fun_mk (st := sLawFacts) l26 c26 k26
  have g26 := PySem.W.mg_of X G a26
  have F27 := fun_mk (st := sLawHolds) l27 c27 k27
  have g27 := PySem.W.mg_of X G a27
  have F28 := fun_mk (st := sLawFitting) l28 c28 k28
  have g28 := PySem.W.mg_of X G a28
  have F29 := fun_mk (st := sLawShort) l29 c29 k29
  have g29 := PySem.W.mg_of X G a29
  have F30 := fun_mk (st := sLawIsMinimal) l30 c30 k30
  have g30 := PySem.W.mg_of X G a30
  have F31 := fun_mk (st := sLawGroup) l31 c31 k31
  have g31 := PySem.W.mg_of X G a31
  have F32 := fun_mk (st := sLawRight) l32 c32 k32
  have g32 := PySem.W.mg_of X G a32
  have F33 := fun_mk (st := sLawGreatRight) l33 c33 k33
  have g33 := PySem.W.mg_of X G a33
  have F34 := fun_mk (st := sLaw) l34 c34 k34
  have g34 := PySem.W.mg_of X G a34
  have b1 := F1.binds (ps := ["value"]) fun _ _ _ _ _ _ us hl => match us, hl with | [_], _ => rfl
  have b2 := F2.binds (ps := ["value", "many"]) fun _ _ _ _ _ _ us hl => match us, hl with | [_, _], _ => rfl
  have b3 := F3.binds (ps := ["value"]) fun _ _ _ _ _ _ us hl => match us, hl with | [_], _ => rfl
  have b4 := F4.binds (ps := ["value"]) fun _ _ _ _ _ _ us hl => match us, hl with | [_], _ => rfl
  have b5 := F5.binds (ps := ["value", "many"]) fun _ _ _ _ _ _ us hl => match us, hl with | [_, _], _ => rfl
  have b6 := F6.binds (ps := ["value"]) fun _ _ _ _ _ _ us hl => match us, hl with | [_], _ => rfl
  have b7 := F7.binds (ps := ["numbers"]) fun _ _ _ _ _ _ us hl => match us, hl with | [_], _ => rfl
  have b8 := F8.binds (ps := ["result", "value"]) fun _ _ _ _ _ _ us hl => match us, hl with | [_, _], _ => rfl
  have b9 := F9.binds (ps := ["result", "value"]) fun _ _ _ _ _ _ us hl => match us, hl with | [_, _], _ => rfl
  have b10 := F10.binds (ps := ["result", "value"]) fun _ _ _ _ _ _ us hl => match us, hl with | [_, _], _ => rfl
  have b11 := F11.binds (ps := ["result", "facts"]) fun _ _ _ _ _ _ us hl => match us, hl with | [_, _], _ => rfl
  have b12 := F12.binds (ps := ["result"]) fun _ _ _ _ _ _ us hl => match us, hl with | [_], _ => rfl
  have b13 := F13.binds (ps := ["fact", "nodes"]) fun _ _ _ _ _ _ us hl => match us, hl with | [_, _], _ => rfl
  have b14 := F14.binds (ps := ["leaders", "sides", "drop", "keep", "turn"]) fun _ _ _ _ _ _ us hl => match us, hl with | [_, _, _, _, _], _ => rfl
  have b15 := F15.binds (ps := ["result", "facts"]) fun _ _ _ _ _ _ us hl => match us, hl with | [_, _], _ => rfl
  have b16 := F16.binds (ps := ["result", "facts"]) fun _ _ _ _ _ _ us hl => match us, hl with | [_, _], _ => rfl
  have b17 := F17.binds (ps := ["result", "facts"]) fun _ _ _ _ _ _ us hl => match us, hl with | [_, _], _ => rfl
  have b18 := F18.binds (ps := ["result", "facts"]) fun _ _ _ _ _ _ us hl => match us, hl with | [_, _], _ => rfl
  have b19 := F19.binds (ps := ["result", "facts", "value"]) fun _ _ _ _ _ _ us hl => match us, hl with | [_, _, _], _ => rfl
  have b20 := F20.binds (ps := ["script", "k"]) fun _ _ _ _ _ _ us hl => match us, hl with | [_, _], _ => rfl
  have b21 := F21.binds (ps := ["pot", "many"]) fun _ _ _ _ _ _ us hl => match us, hl with | [_, _], _ => rfl
  have b22 := F22.binds (ps := ["pot", "things", "many"]) fun _ _ _ _ _ _ us hl => match us, hl with | [_, _, _], _ => rfl
  have b23 := F23.binds (ps := ["pot", "many"]) fun _ _ _ _ _ _ us hl => match us, hl with | [_, _], _ => rfl
  have b24 := F24.binds (ps := ["numbers"]) fun _ _ _ _ _ _ us hl => match us, hl with | [_], _ => rfl
  have b25 := F25.binds (ps := ["many"]) fun _ _ _ _ _ _ us hl => match us, hl with | [_], _ => rfl
  have b26 := F26.binds (ps := ["pot", "result", "many"]) fun _ _ _ _ _ _ us hl => match us, hl with | [_, _, _], _ => rfl
  have b27 := F27.binds (ps := ["queue_of", "facts"]) fun _ _ _ _ _ _ us hl => match us, hl with | [_, _], _ => rfl
  have b28 := F28.binds (ps := ["result", "facts"]) fun _ _ _ _ _ _ us hl => match us, hl with | [_, _], _ => rfl
  have b29 := F29.binds (ps := ["pot", "most"]) fun _ _ _ _ _ _ us hl => match us, hl with | [_, _], _ => rfl
  have b30 := F30.binds (ps := ["result", "facts", "value"]) fun _ _ _ _ _ _ us hl => match us, hl with | [_, _, _], _ => rfl
  have b31 := F31.binds (ps := ["result", "facts"]) fun _ _ _ _ _ _ us hl => match us, hl with | [_, _], _ => rfl
  have b32 := F32.binds (ps := ["result", "facts"]) fun _ _ _ _ _ _ us hl => match us, hl with | [_, _], _ => rfl
  have b33 := F33.binds (ps := ["pot"]) fun _ _ _ _ _ _ us hl => match us, hl with | [_], _ => rfl
  have Tx : Txt mg := ⟨PySem.W.mg_none_of X G z1, PySem.W.mg_none_of X G z2, PySem.W.mg_none_of X G z3, PySem.W.mg_none_of X G z4, PySem.W.mg_none_of X G z5, PySem.W.mg_none_of X G z6, PySem.W.mg_none_of X G z7, PySem.W.mg_none_of X G z8, PySem.W.mg_none_of X G z9, PySem.W.mg_none_of X G z10, PySem.W.mg_none_of X G z11, PySem.W.mg_none_of X G z12, PySem.W.mg_none_of X G z13, PySem.W.mg_none_of X G z14, PySem.W.mg_none_of X G z15, PySem.W.mg_none_of X G z16, PySem.W.mg_none_of X G z17, PySem.W.mg_none_of X G z18, PySem.W.mg_none_of X G z19, PySem.W.mg_none_of X G z20, PySem.W.mg_none_of X G z21, PySem.W.mg_none_of X G z22⟩
  refine ⟨(PySem.W.fnOf "law" "law" (defArgs sLaw) (defBody sLaw) (defScope sLaw) .none kV34 dc34 pm34 an34 cd34 ct34), fun s v => .of_eq rfl, fun base _ _ => ?_⟩
  have C_is_integer := Cal.of (ok_Int (P := l.prog) (w := w) (base := base) (mg := mg) (k := 0) F1 Tx ) g1 F1.kp b1
  have G_split_blocks := ok_split (P := l.prog) (w := w) (base := base) (k := 0) F7 Tx
  have C_split_blocks := Cal.of G_split_blocks g7 F7.kp b7
  have C_link_of := Cal.of (ok_LinkOf (P := l.prog) (w := w) (base := base) (mg := mg) (k := 0) F13 Tx ) g13 F13.kp b13
  have C_join_groups := Cal.of (ok_JoinGroups (P := l.prog) (w := w) (base := base) (mg := mg) (k := 0) F14 Tx ) g14 F14.kp b14
  have C__law_pot := Cal.of (ok_LawPot (P := l.prog) (w := w) (base := base) (mg := mg) (k := 0) F20 Tx ) g20 F20.kp b20
  have C__law_take := Cal.of (ok_LawTake (P := l.prog) (w := w) (base := base) (mg := mg) (k := 0) F21 Tx ) g21 F21.kp b21
  have C__law_blocks := Cal.of (ok_LawBlocks (P := l.prog) (w := w) (base := base) (mg := mg) (k := 0) F24 Tx ) g24 F24.kp b24
  have C__law_all_chosen := Cal.of (ok_LawAllChosen (P := l.prog) (w := w) (base := base) (mg := mg) (k := 0) F25 Tx ) g25 F25.kp b25
  have C__law_holds := Cal.of (ok_LawHolds (P := l.prog) (w := w) (base := base) (mg := mg) (k := 0) F27 Tx ) g27 F27.kp b27
  have C_is_index := Cal.of (ok_IsIndex (P := l.prog) (w := w) (base := base) (mg := mg) (k := 1) F2 Tx (C_is_integer.mono (show 1 ≤ 1 by decide))) g2 F2.kp b2
  have C_is_numbers := Cal.of (ok_Nums (P := l.prog) (w := w) (base := base) (mg := mg) (k := 1) F3 Tx (C_is_integer.mono (show 1 ≤ 1 by decide))) g3 F3.kp b3
  have C_is_number_of := Cal.of (ok_IsNumberOf (P := l.prog) (w := w) (base := base) (mg := mg) (k := 1) F8 Tx (C_is_integer.mono (show 1 ≤ 1 by decide))) g8 F8.kp b8
  have C_nodes_of := Cal.of (ok_NodesOf (P := l.prog) (w := w) (base := base) (mg := mg) (k := 1) F12 Tx (C_split_blocks.mono (show 1 ≤ 1 by decide))) g12 F12.kp b12
  have C__law_some := Cal.of (ok_LawSome (P := l.prog) (w := w) (base := base) (mg := mg) (k := 1) F22 Tx (C__law_take.mono (show 1 ≤ 1 by decide))) g22 F22.kp b22
  have C__law_fitting := Cal.of (ok_LawFitting (P := l.prog) (w := w) (base := base) (mg := mg) (k := 1) F28 Tx (C__law_blocks.mono (show 1 ≤ 1 by decide)) (C__law_all_chosen.mono (show 1 ≤ 1 by decide)) (C__law_holds.mono (show 1 ≤ 1 by decide))) g28 F28.kp b28
  have C__law_group := Cal.of (ok_LawGroup (P := l.prog) (w := w) (base := base) (mg := mg) (k := 1) F31 Tx (C__law_blocks.mono (show 1 ≤ 1 by decide))) g31 F31.kp b31
  have C_is_ascending := Cal.of (ok_IsAscending (P := l.prog) (w := w) (base := base) (mg := mg) (k := 2) F4 Tx (C_is_numbers.mono (show 2 ≤ 2 by decide))) g4 F4.kp b4
  have C_require_numbers := Cal.of (ok_Req (P := l.prog) (w := w) (base := base) (mg := mg) (k := 2) F6 Tx (C_is_numbers.mono (show 2 ≤ 2 by decide))) g6 F6.kp b6
  have C_is_fact := Cal.of (ok_IsFact (P := l.prog) (w := w) (base := base) (mg := mg) (k := 2) F9 Tx (C_is_index.mono (show 2 ≤ 2 by decide)) (C_is_number_of.mono (show 2 ≤ 2 by decide))) g9 F9.kp b9
  have C_solve := Cal.of (ok_Solve (P := l.prog) (w := w) (base := base) (mg := mg) (k := 2) F15 Tx (C_split_blocks.mono (show 1 ≤ 2 by decide)) (C_nodes_of.mono (show 2 ≤ 2 by decide)) (C_link_of.mono (show 1 ≤ 2 by decide)) (C_join_groups.mono (show 1 ≤ 2 by decide))) g15 F15.kp b15
  have C__law_numbers := Cal.of (ok_LawNumbers (P := l.prog) (w := w) (base := base) (mg := mg) (k := 2) F23 Tx (C__law_take.mono (show 1 ≤ 2 by decide)) (C__law_some.mono (show 2 ≤ 2 by decide))) g23 F23.kp b23
  have C__law_facts := Cal.of (ok_LawFacts (P := l.prog) (w := w) (base := base) (mg := mg) (k := 2) F26 Tx (C__law_take.mono (show 1 ≤ 2 by decide)) (C__law_some.mono (show 2 ≤ 2 by decide))) g26 F26.kp b26
  have C__law_is_minimal := Cal.of (ok_LawIsMinimal (P := l.prog) (w := w) (base := base) (mg := mg) (k := 2) F30 Tx (C__law_fitting.mono (show 2 ≤ 2 by decide))) g30 F30.kp b30
  have C_are_indices := Cal.of (ok_AreIndices (P := l.prog) (w := w) (base := base) (mg := mg) (k := 3) F5 Tx (C_is_index.mono (show 2 ≤ 3 by decide)) (C_is_ascending.mono (show 3 ≤ 3 by decide))) g5 F5.kp b5
  have C_all_facts := Cal.of (ok_AllFacts (P := l.prog) (w := w) (base := base) (mg := mg) (k := 3) F10 Tx (C_is_fact.mono (show 3 ≤ 3 by decide))) g10 F10.kp b10
  have C_contradict := Cal.of (ok_Contradict (P := l.prog) (w := w) (base := base) (mg := mg) (k := 3) F16 Tx (C_solve.mono (show 3 ≤ 3 by decide))) g16 F16.kp b16
  have C__law_short := Cal.of (ok_LawShort (P := l.prog) (w := w) (base := base) (mg := mg) (k := 3) F29 Tx (C__law_take.mono (show 1 ≤ 3 by decide)) (C__law_numbers.mono (show 3 ≤ 3 by decide)) (C__law_blocks.mono (show 1 ≤ 3 by decide))) g29 F29.kp b29
  have C_require_facts := Cal.of (ok_RequireFacts (P := l.prog) (w := w) (base := base) (mg := mg) (k := 4) F11 Tx (C_require_numbers.mono (show 3 ≤ 4 by decide)) (C_all_facts.mono (show 4 ≤ 4 by decide))) g11 F11.kp b11
  have C_least_contradiction := Cal.of (ok_LeastContradiction (P := l.prog) (w := w) (base := base) (mg := mg) (k := 4) F17 Tx (C_contradict.mono (show 4 ≤ 4 by decide))) g17 F17.kp b17
  have C_contradiction_of := Cal.of (ok_ContradictionOf (P := l.prog) (w := w) (base := base) (mg := mg) (k := 5) F18 Tx (C_require_facts.mono (show 5 ≤ 5 by decide)) (C_contradict.mono (show 4 ≤ 5 by decide)) (C_least_contradiction.mono (show 5 ≤ 5 by decide))) g18 F18.kp b18
  have C_is_contradiction := Cal.of (ok_IsContradiction (P := l.prog) (w := w) (base := base) (mg := mg) (k := 5) F19 Tx (C_are_indices.mono (show 4 ≤ 5 by decide)) (C_require_facts.mono (show 5 ≤ 5 by decide)) (C_contradict.mono (show 4 ≤ 5 by decide))) g19 F19.kp b19
  have C__law_right := CalG.of (ok_LawRight (P := l.prog) (w := w) (base := base) (mg := mg) (k := 6) F32 Tx (C_contradiction_of.mono (show 6 ≤ 6 by decide)) (C_is_contradiction.mono (show 6 ≤ 6 by decide)) (C__law_fitting.mono (show 2 ≤ 6 by decide)) (C__law_is_minimal.mono (show 3 ≤ 6 by decide))) g32 F32.kp b32
  have C__law_great_right := Cal.of (ok_LawGreatRight (P := l.prog) (w := w) (base := base) (mg := mg) (k := 6) F33 Tx (C_contradiction_of.mono (show 6 ≤ 6 by decide)) (C_is_contradiction.mono (show 6 ≤ 6 by decide)) (C__law_take.mono (show 1 ≤ 6 by decide)) (C__law_numbers.mono (show 3 ≤ 6 by decide)) (C__law_facts.mono (show 3 ≤ 6 by decide)) (C__law_group.mono (show 2 ≤ 6 by decide))) g33 F33.kp b33
  exact ok_Law (k := 7) F34 Tx (C_contradiction_of.mono (show 6 ≤ 7 by decide)) (C__law_pot.mono (show 1 ≤ 7 by decide)) (C__law_take.mono (show 1 ≤ 7 by decide)) (C__law_facts.mono (show 3 ≤ 7 by decide)) (C__law_short.mono (show 4 ≤ 7 by decide)) (C__law_right.mono (show 7 ≤ 7 by decide)) (C__law_great_right.mono (show 7 ≤ 7 by decide))
end My
open PySem PySem.W PyProof.Rows
set_option maxHeartbeats 0 in
theorem PySem.Challenge.cw_leastheads_k28_contradictions_returned_holds : PySem.Challenge.rw_leastheads_k28_contradictions_returned.Holds := by
  w_on; o_law; k_head; (case hw => w_witness2)
  k_fill
  refine My.walkG (l := PySem.Challenge.rw_leastheads_k28_contradictions_returned) (n := 63) (k := 8) (x := "script") (sp := fun w => My.spLaw _ []) rfl (by decide) rfl ⟨rfl, by decide, by decide⟩ (fun w h Y => PySem.W.kIn_of Y) ?F
    (fun _ H a ns hl _ hS => ⟨a, ns, rfl, hS, hl, (fun p hp => nomatch hp), fun _ => rfl⟩)
  case F =>
    intro w mg fa h KX G hmg
    refine' My.all_in KX G hmg ?a1 ?l1 ?c1 ?k1 ?a2 ?l2 ?c2 ?k2 ?a3 ?l3 ?c3 ?k3 ?a4 ?l4 ?c4 ?k4 ?a5 ?l5 ?c5 ?k5 ?a6 ?l6 ?c6 ?k6 ?a7 ?l7 ?c7 ?k7 ?a8 ?l8 ?c8 ?k8 ?a9 ?l9 ?c9 ?k9 ?a10 ?l10 ?c10 ?k10 ?a11 ?l11 ?c11 ?k11 ?a12 ?l12 ?c12 ?k12 ?a13 ?l13 ?c13 ?k13 ?a14 ?l14 ?c14 ?k14 ?a15 ?l15 ?c15 ?k15 ?a16 ?l16 ?c16 ?k16 ?a17 ?l17 ?c17 ?k17 ?a18 ?l18 ?c18 ?k18 ?a19 ?l19 ?c19 ?k19 ?a20 ?l20 ?c20 ?k20 ?a21 ?l21 ?c21 ?k21 ?a22 ?l22 ?c22 ?k22 ?a23 ?l23 ?c23 ?k23 ?a24 ?l24 ?c24 ?k24 ?a25 ?l25 ?c25 ?k25 ?a26 ?l26 ?c26 ?k26 ?a27 ?l27 ?c27 ?k27 ?a28 ?l28 ?c28 ?k28 ?a29 ?l29 ?c29 ?k29 ?a30 ?l30 ?c30 ?k30 ?a31 ?l31 ?c31 ?k31 ?a32 ?l32 ?c32 ?k32 ?a33 ?l33 ?c33 ?k33 ?a34 ?l34 ?c34 ?k34 ?z1 ?z2 ?z3 ?z4 ?z5 ?z6 ?z7 ?z8 ?z9 ?z10 ?z11 ?z12 ?z13 ?z14 ?z15 ?z16 ?z17 ?z18 ?z19 ?z20 ?z21 ?z22
    (case a1 => k_is); (case l1 => k_is); (case c1 => k_is); (case k1 => k_is); (case a2 => k_is); (case l2 => k_is); (case c2 => k_is); (case k2 => k_is)
    (case a3 => k_is); (case l3 => k_is); (case c3 => k_is); (case k3 => k_is); (case a4 => k_is); (case l4 => k_is); (case c4 => k_is); (case k4 => k_is)
    (case a5 => k_is); (case l5 => k_is); (case c5 => k_is); (case k5 => k_is); (case a6 => k_is); (case l6 => k_is); (case c6 => k_is); (case k6 => k_is)
    (case a7 => k_is); (case l7 => k_is); (case c7 => k_is); (case k7 => k_is); (case a8 => k_is); (case l8 => k_is); (case c8 => k_is); (case k8 => k_is)
    (case a9 => k_is); (case l9 => k_is); (case c9 => k_is); (case k9 => k_is); (case a10 => k_is); (case l10 => k_is); (case c10 => k_is); (case k10 => k_is)
    (case a11 => k_is); (case l11 => k_is); (case c11 => k_is); (case k11 => k_is); (case a12 => k_is); (case l12 => k_is); (case c12 => k_is); (case k12 => k_is)
    (case a13 => k_is); (case l13 => k_is); (case c13 => k_is); (case k13 => k_is); (case a14 => k_is); (case l14 => k_is); (case c14 => k_is); (case k14 => k_is)
    (case a15 => k_is); (case l15 => k_is); (case c15 => k_is); (case k15 => k_is); (case a16 => k_is); (case l16 => k_is); (case c16 => k_is); (case k16 => k_is)
    (case a17 => k_is); (case l17 => k_is); (case c17 => k_is); (case k17 => k_is); (case a18 => k_is); (case l18 => k_is); (case c18 => k_is); (case k18 => k_is)
    (case a19 => k_is); (case l19 => k_is); (case c19 => k_is); (case k19 => k_is); (case a20 => k_is); (case l20 => k_is); (case c20 => k_is); (case k20 => k_is)
    (case a21 => k_is); (case l21 => k_is); (case c21 => k_is); (case k21 => k_is); (case a22 => k_is); (case l22 => k_is); (case c22 => k_is); (case k22 => k_is)
    (case a23 => k_is); (case l23 => k_is); (case c23 => k_is); (case k23 => k_is); (case a24 => k_is); (case l24 => k_is); (case c24 => k_is); (case k24 => k_is)
    (case a25 => k_is); (case l25 => k_is); (case c25 => k_is); (case k25 => k_is); (case a26 => k_is); (case l26 => k_is); (case c26 => k_is); (case k26 => k_is)
    (case a27 => k_is); (case l27 => k_is); (case c27 => k_is); (case k27 => k_is); (case a28 => k_is); (case l28 => k_is); (case c28 => k_is); (case k28 => k_is)
    (case a29 => k_is); (case l29 => k_is); (case c29 => k_is); (case k29 => k_is); (case a30 => k_is); (case l30 => k_is); (case c30 => k_is); (case k30 => k_is)
    (case a31 => k_is); (case l31 => k_is); (case c31 => k_is); (case k31 => k_is); (case a32 => k_is); (case l32 => k_is); (case c32 => k_is); (case k32 => k_is)
    (case a33 => k_is); (case l33 => k_is); (case c33 => k_is); (case k33 => k_is); (case a34 => k_is); (case l34 => k_is); (case c34 => k_is); (case k34 => k_is)
    (case z1 => k_is); (case z2 => k_is); (case z3 => k_is); (case z4 => k_is); (case z5 => k_is); (case z6 => k_is); (case z7 => k_is); (case z8 => k_is)
    (case z9 => k_is); (case z10 => k_is); (case z11 => k_is); (case z12 => k_is); (case z13 => k_is); (case z14 => k_is); (case z15 => k_is); (case z16 => k_is)
    (case z17 => k_is); (case z18 => k_is); (case z19 => k_is); (case z20 => k_is); (case z21 => k_is); (case z22 => k_is)
