import PyProof.Rows.All
import Wide.All
import OpenK.AllK
import Wide.FinOn
import PySem.Challenge.RW_matchgift_k70_whole_what_comes_of_what_c
import HandS.ForMost
import HandS.IsInst
import HandS.TupAny
import HandS.TupMul
import HandS.Wide
import HandS.Flow
import HandS.RaiseMore
import PyProof.ReprRoads
import KE.GoesNew
import KE.KTupSum
import HandS.Walk
import HandS.WideBits
import PyProof.Rows.BitMore
import HandS.Zip
import HandS.Dict
import PyProof.Rows.TupDisplay
import KE.KDictDisplayH
import HandS.EndTab
import HandS.Nested
import KE.SortKeyHeap
import PyProof.TupleOfSeq
import HandS.Style
import HandS.Conv
import HandS.Small
import KE.KeyNested
import HandS.Exc
import HandS.ExcOwn
import HandS.ExcIs
import HandS.WordsExc
import HandS.Strs
import HandS.SetFor
import PyProof.SeqIndex
import KE.KIndexOf
set_option Elab.async false
set_option linter.all false
set_option maxRecDepth 100000
set_option maxHeartbeats 2000000
/-! MG: promises of defs that are called where no repr is under way, and repr of data by them. -/
namespace MG
open PySem PySem.Spec PyProof.Rows L2

structure FnG (P : Program) (w : World) (K : PySem.W.Frag) (mg : Str → Option Value) (base : Heap) (k : Nat)
    (f : Addr) (fd : FuncData) (ps : List Str) (sp : Sp) : Prop where
  len : ∀ vs H Q E, sp vs H Q E → vs.length = ps.length
  run : ∀ (A : Around) (outer : List Env) (s : Shared) (H : Hp) (args : Args) (us : List Value) (vs : List V) (Q : VK) (E : XK),
    A.guards = some [] → Room k A → Env0 P w K mg base A outer s H →
    BindsTo s fd args (ps.zip us) → Vals vs us → sp vs H Q E →
    codeAny (model P w) A (.call (.ref f) args) (CR CX0 outer P w H s Q E) s

section
variable {P : Program} {w : World} {K : PySem.W.Frag} {mg : Str → Option Value} {base : Heap}
theorem okG {x qual : Str} {st : Stmt} {f : Addr} {fd : FuncData} {N ps : List Str} {k : Nat} {sp : Sp}
    (F : Fun K x qual st f fd) (S : FnScope N ps (defScope st))
    (hlen : ∀ vs H Q E, sp vs H Q E → vs.length = ps.length)
    (body : ∀ (cdv : Value) (A : Around) (outer : List Env) (s : Shared) (H : Hp) (vs : List V) (Q : VK) (E : XK),
      A.guards = some [] → Room k (A.deeper (envOfC qual (defScope st) s.heap.objs.size f cdv)) → sp vs H Q E →
      ∃ t, PSs (cxOf CX0 P w K mg base N qual (defScope st) f cdv A outer s H E).nox (defBody st) t ∧
        t { nx := fun _ H' => Q .non H', rt := Q } (start N vs) H) :
    FnG P w K mg base (k + 1) f fd ps sp := by
  obtain ⟨oc, od, kV, doc, pm, an, cdv, ct, osl, rfl, lk, hcd⟩ := F.ex
  refine ⟨hlen, ?_⟩
  intro A outer s H args us vs Q E gd room e0 bnd rel want
  have inK : K.In s.heap := e0.mod.kin.keeps (fun b o q => (e0.bs b o q).left)
  have noLim : s.heap.NoLimit := e0.mod.nolimit.keeps (fun b o q => (e0.bs b o q).left)
  refine codeAny_call_function room.depth (inK _ _ lk) rfl S.co S.gen rfl
    (PySem.W.codeRec_of inK hcd) (bnd _ _ _ _ ?_)
  refine wpAny_newFunctionEnv_cells S.kind ?_ ?_
  · rintro ⟨n, v⟩ hy
    rcases S.par n (List.of_mem_zip hy).1 with loc | cel
    · exact Or.inl loc
    · exact Or.inr ⟨cel, PySem.W.cellsFrom_some _ _ _ (Or.inl cel)⟩
  · intro env he s1 x
    subst he
    refine ⟨noLim.keeps x.toInCall.keep, codeAny_func ?_⟩
    obtain ⟨t, ht0, hq⟩ := body cdv A outer s H vs Q E gd (room.deeper _) want
    have ht := ht0.nox
    have I := inv_start (CX := CX0) (N := N) (qual := qual) (f := f) (cd := cdv) (E := E) S room.hd e0 (hlen _ _ _ _ want) rel x
    refine wpAny_mono (ht.run [] s1 (start N vs) H _ I hq) ?_ (fun _ _ z => z)
    intro fl s' hs
    cases fl with
    | ret u =>
      obtain ⟨v, σ', H', J, rv, q⟩ := hs
      exact ⟨v, H', J.os, J.bare, J.base, J.hok, rv, q⟩
    | next =>
      obtain ⟨σ', H', J, q⟩ := hs
      exact ⟨V.non, H', J.os, J.bare, J.base, J.hok, rfl, q⟩
    | brk =>
      obtain ⟨_, _, _, q⟩ := hs
      exact q.elim
    | cont =>
      obtain ⟨_, _, _, q⟩ := hs
      exact q.elim
end

section
variable {X : Cx} {k : Nat} {f : Addr} {fd : FuncData} {ps : List Str} {sp : Sp} {E : XK} {x : Str} {p pos : Pos}
  {e : Expr} {es : List Expr} {t : TA}
/-- f(e, ..) of such a def -/
theorem pe_callG (F : FnG X.prog X.w X.K X.mg X.base k f fd ps sp) (gd : X.A.guards = some []) (hr : Room k X.A) (hg : Gl X x)
    (hm : X.mg x = some (.ref f)) (hk : PySem.W.keepIn X.K (.ref f) = true) (hb : Binds X.K fd ps []) (ha : PA X (e :: es) t)
    (hdb : (x == ("__debug__" : Str)) = false := by decide)
    (he : starEach (e :: es) X.env = (false, eval e X.env) :: starEach es X.env := by rfl)
    (hpl : (backTo pos (starEach es X.env)).any (·.1) = false := by rfl) :
    PE X (.Call (.Name x p) (e :: es) [] pos) (tCall sp [] E t) := by
  constructor
  intro pins s σ H Q I h
  refine wpAny_Call_Name_kw (ld_glob I hg hm ?_ hdb)
  refine PySem.W.callWith_K (h₀ := X.base) I.ok.mod.kin hk ?_ he hpl
  refine thn (ha.run pos pins s σ H _ I h) ?_
  rintro us s1 ⟨vs, H1, I1, r, q⟩
  refine ⟨I1.kIn, ?_⟩
  have q' : sp (vs ++ []) H1 Q E := q
  rw [List.append_nil] at q'
  have hl : us.length = ps.length := by
    rw [← r.length]
    exact F.len _ _ _ _ q'
  have hb' := hb s1 us I1.kIn (by simpa using hl)
  rw [List.append_nil] at hb'
  refine wpAny_call (codeAny_mono (F.run X.A X.stack s1 H1 ⟨us, []⟩ us vs Q E gd hr I1.env0 hb' r q') ?_)
  intro res s' hq
  cases res with
  | error e => exact False.elim hq
  | ok fl =>
    cases fl with
    | ret u => exact I1.after hq
    | next => exact False.elim hq
    | brk => exact False.elim hq
    | cont => exact False.elim hq
end
end MG

namespace MG
open PySem PySem.Spec PyProof.Rows L2

def SysD (h : Heap) : Prop := ∃ mm, h.Ns sysModules mm
theorem lawG {P : Program} {w : World} {K : PySem.W.Frag} {mg mb : Str → Option Value} {k : Nat} {fa a : Addr} {fd : FuncData} {x : Str}
    {sp : Sp} {s₁ : Shared} {vs : List Value} {ns : List Int}
    (KX : K.In s₁.heap) (hns : s₁.heap.Ns mainGlobals mg) (hb : s₁.heap.Ns builtinsNs mb)
    (hbb : ∀ x : Str, x ≠ "__name__" → mb x = bootBuiltins x) (hlim : s₁.heap.NoLimit) (hsys : SysD s₁.heap) (hg : s₁.gens = #[])
    (ha : s₁.heap.get? a = some { cls := .type "list", data := .seq vs.toArray }) (hi : IntsAre vs ns)
    (hl : ns.length ≤ sizeLine) (hr : Room k callerA)
    (F : ∀ base : Heap, K.In base → base.Ns mainGlobals mg → SysD base → FnG P w K mg base k fa fd [x] sp)
    (hbind : ∀ (s : Shared) (u : Value), BindsTo s fd ⟨[u], []⟩ [(x, u)])
    (hsp : ∀ H : Hp, Only H → SqL K H a (ns.map V.int) → sp [.ref a] H (fun v _ => v = .bl true) fun _ _ _ => False) :
    codeAny (model P w) callerA (.call (.ref fa) ⟨[.ref a], []⟩)
      (fun r s' => r = .ok (.ret (.bool true)) ∧ OldK s₁.heap s'.heap ∧ s'.os = s₁.os ∧ AllBare s'.gens) s₁ := by
  have rels := vals_ints hi
  have sizes := hi.length
  have go : ∀ H : Hp, Only H → SqL K H a (ns.map V.int) → HOk P w H s₁.heap → (∀ b, H b ≠ none → b = a) →
      (H a ≠ none → K.lookup a = none) →
      codeAny (model P w) callerA (.call (.ref fa) ⟨[.ref a], []⟩)
        (fun r s' => r = .ok (.ret (.bool true)) ∧ OldK s₁.heap s'.heap ∧ s'.os = s₁.os ∧ AllBare s'.gens) s₁ := by
    intro H only sq ok justA noK
    have dictFree : ∀ {b : Addr} {o : Obj} {es : Array DictEntry} {ep : Nat}, s₁.heap.get? b = some o → o.data = .dict es ep → H b = none := by
      intro b o es ep hget hdat
      cases hH : H b with
      | none => rfl
      | some u =>
        obtain rfl : b = a := justA b (by rw [hH]; exact fun z => nomatch z)
        rw [ha] at hget
        cases hget
        exact (nomatch (show Data.seq vs.toArray _ = Data.dict es ep from hdat))
    have nsHid : ∀ {b : Addr} {m : Str → Option Value}, s₁.heap.Ns b m → (hidT s₁.heap H).Ns b m := by
      rintro b m ⟨o, es, ep, h1, h2, h3⟩
      exact ⟨o, es, ep, hidT_get h1 (dictFree h1 h2), h2, h3⟩
    have kHid : K.In (hidT s₁.heap H) := by
      intro b o look
      refine hidT_get (KX b o look) ?_
      cases hH : H b with
      | none => rfl
      | some u =>
        obtain rfl : b = a := justA b (by rw [hH]; exact fun z => nomatch z)
        have z := noK (by rw [hH]; exact fun z => nomatch z)
        rw [z] at look
        cases look
    have modl : Mod K mg (hidT s₁.heap H) := by
      obtain ⟨mc, l1, l2⟩ := hlim
      exact ⟨kHid, nsHid hns, ⟨mb, nsHid hb, hbb⟩, ⟨mc, nsHid l1, l2⟩⟩
    have e0 : Env0 P w K mg (hidT s₁.heap H) callerA [] s₁ H :=
      { frames := rfl
        mod := modl
        bs := fun b o q => of_hidT q
        bsz := Nat.le_of_eq (hidT_size _ _)
        funs := trivial
        frf := fun b hb => absurd (show b ∈ ([] : List Addr) from hb) List.not_mem_nil
        hok := ok
        bare := .of_eq hg }
    refine codeAny_mono ((F _ kHid (nsHid hns) (let ⟨mm, q⟩ := hsys; ⟨mm, nsHid q⟩)).run callerA [] s₁ H ⟨[.ref a], []⟩ [.ref a] [.ref a] _ _ rfl hr e0
      (hbind s₁ (.ref a)) (.cons rfl .nil) (hsp H only sq)) ?_
    intro r s' h
    cases r with
    | error e => exact False.elim h
    | ok fl =>
      cases fl with
      | next => exact False.elim h
      | brk => exact False.elim h
      | cont => exact False.elim h
      | ret u =>
        obtain ⟨v, H', hos, hbare, un, ok', rel, q⟩ := h
        obtain rfl : v = .bl true := q
        obtain rfl : u = Value.bool true := rel
        refine ⟨rfl, OldK.of_keep ?_, hos, hbare⟩
        intro b o hget
        rcases only b with hn | ⟨ob, xs, hf⟩
        · exact un.keep b o hget hn (fun z => absurd (show b ∈ ([] : List Addr) from z) List.not_mem_nil) List.not_mem_nil
        · have q1 := (ok b _ hf).1
          have q2 := (ok' b _ (un.frzs b ob _ hf)).1
          rw [hget] at q1
          cases q1
          exact q2
  cases hk : K.lookup a with
  | none =>
    let ob : Obj := { cls := .type "list", data := .seq vs.toArray }
    let H : Hp := fun b => if b = a then some (.frz ob (.lst (ns.map V.int))) else none
    have atA : H a = some (.frz ob (.lst (ns.map V.int))) := if_pos rfl
    have off : ∀ b, b ≠ a → H b = none := fun b hb => if_neg hb
    refine go H ?_ (.inl (.inr ⟨ob, atA⟩)) ?_ ?_ (fun _ => hk)
    · intro b
      by_cases hb : b = a
      · subst hb; exact .inr ⟨_, _, atA⟩
      · exact .inl (off b hb)
    · intro b u z
      by_cases hb : b = a
      · subst hb
        rw [atA] at z
        cases z
        exact ⟨ha, by rw [List.length_map]; exact hl, vs, _, rels, ha⟩
      · rw [off b hb] at z
        cases z
    · intro b z
      by_cases hb : b = a
      · exact hb
      · exact absurd (off b hb) z
  | some o =>
    have e := KX a o hk
    rw [ha] at e
    cases e
    exact go (fun _ => none) (fun _ => .inl rfl)
      (.inr ⟨_, vs.toArray, _, hk, rfl, rfl, rfl, by rw [List.size_toArray, sizes]; exact hl, by simpa using rels⟩)
      (fun b u z => nomatch (show (none : Option HO) = some u from z)) (fun b z => absurd rfl z) (fun z => absurd rfl z)

theorem walkG {l : PySem.W.OpenLaw} {n k : Nat} {q : Program} {loose : List Str} {XP : (Str → Option Value) → Heap → Prop}
    {YP : World → Heap → Prop} {d : DefRec} {K : Params → PySem.W.Frag} {sp : PySem.W.Frag → Sp} {x : Str}
    (hn : l.most = some n) (hn2 : n ≤ sizeLine) (hdf : d.params.defaults = []) (hr : Room k callerA) (hq : importsNone q = true)
    (hY : ∀ (w : World) (h : Heap), YP w h → (K w.params).In h)
    (F : ∀ (w : World) (mg : Str → Option Value) (fa : Addr) (h : Heap), (K w.params).In h → h.Ns mainGlobals mg → mg d.name = some (.ref fa) →
      ∃ fd : FuncData, (∀ (s : Shared) (u : Value), BindsTo s fd ⟨[u], []⟩ [(x, u)]) ∧
        ∀ base : Heap, (K w.params).In base → base.Ns mainGlobals mg → SysD base → FnG l.prog w (K w.params) mg base k fa fd [x] (sp (K w.params)))
    (hsp : ∀ (K : PySem.W.Frag) (H : Hp) (a : Addr) (ns : List Int), ns.length ≤ n → Only H → SqL K H a (ns.map V.int) →
      sp K [.ref a] H (fun v _ => v = .bl true) fun _ _ _ => False) :
    PySem.W.WalkO q loose XP YP l.row.toRowW d [] (fun f vs => PySem.call f vs) := by
  refine Att.attach_call hn hdf ?_
  intro w s₀ s₁ mg mb fa o pm cd doc a vs ns G Y _ _ _ hmg hobj hints hlen hg
  have KX := hY w _ Y
  obtain ⟨fd, hbd, hF⟩ := F w mg fa _ KX G.T.g hmg
  exact lawG KX G.T.g G.T.b G.T.builtins G.T.nolimit (let ⟨mm, q, _⟩ := (G.T.seer hq).mods; ⟨mm, q⟩) hg hobj hints (Nat.le_trans hlen hn2) hr hF hbd
    (fun H hO hS => hsp _ H a ns hlen hO hS)
end MG

namespace MG
open PySem PySem.Spec PyProof.Rows L2

/-- behind enumerate(v): v's iterator, and who counts beside it -/
abbrev counts (g : Heap) (o : Obj) : Heap :=
  (g.push o).push { cls := .type "enumerate", data := .fields #[.none, .bool false, .ref g.objs.size, rawInt 0, .none, .none] }
theorem counts_new {v : Value} {o : Obj} {S : Heap → Prop} (B : Begins v o S) :
    PySem.Meets (Builtin.«enumerate.__new__» ⟨[.type "enumerate", v], []⟩) (fun _ R s =>
      S s.heap ∧ R (.ok (.ret (.ref (s.heap.push o).objs.size))) { s with heap := counts s.heap o }) := by
  refine .of_wp fun prog w A R s want => ?_
  obtain ⟨g, gens, drawn, tk, os⟩ := s
  have own := sub_enumerate
  have begun : ∀ {A' : Around} {Q E' : Value → Shared → Prop}, Q (.ref g.objs.size) ⟨g.push o, gens, drawn, tk, os⟩ →
      wpAny (model prog w) A' (pyIter v) Q E' ⟨g, gens, drawn, tk, os⟩ := fun q => B.iter _ _ _ _ _ _ want.1 q
  wp_walk using begun
  refine wpAny_stack_any fun top => wpAny_pure ?_
  split
  case h_1 c _ _ _ _ _ =>
    cases c == Value.type "enumerate" <;> (wp_walk using begun; exact ⟨_, rfl, want.2⟩)
  case h_2 =>
    wp_walk using begun
    exact ⟨_, rfl, want.2⟩
theorem counts_call {prog : Program} {w : World} {A : Around} {E : Value → Shared → Prop} {s : Shared} {v : Value} {o : Obj} {S : Heap → Prop}
    {Q : Value → Shared → Prop} (B : Begins v o S) (ready : S s.heap)
    (next : ∀ g, IsEnum g (s.heap.objs.size + 1) s.heap.objs.size 0 .none → g.get? s.heap.objs.size = some o →
      (∀ b u, s.heap.get? b = some u → g.get? b = some u) → Q (.ref (s.heap.objs.size + 1)) { s with heap := g }) :
    wpAny (model prog w) A (call (.type "enumerate") [v]) Q E s := by
  have up : (s.heap.push o).objs.size = s.heap.objs.size + 1 := Heap.size_push ..
  have first : (counts s.heap o).get? s.heap.objs.size = some o := Heap.get?_push_of_some _ (Heap.get?_push_size _ B.free)
  have second : (counts s.heap o).get? (s.heap.push o).objs.size = _ := Heap.get?_push_size _ rfl
  have rest : ∀ b u, s.heap.get? b = some u → (counts s.heap o).get? b = some u := fun _ _ at_ =>
    Heap.get?_push_of_some _ (Heap.get?_push_of_some _ at_)
  rw [up] at second
  refine callType_new F.called_enumerate (by decide) (F.typeCall_enumerate_1 v) (F.newCall_enumerate_1 v)
    (fun obj => F.args_object_init_2 obj v) F.entry_enumerate_new (counts_new B) ⟨ready, ?_⟩
  rw [up]
  exact ⟨⟨_, second, rfl⟩, next _ second first rest⟩
/-! ### walks that tell a new tuple each time -/
theorem not_tuple {g : Heap} {b c : Addr} {o : Obj} {items : Array Value} (t : IsTup g b items) (at_ : g.get? c = some o) (cls : o.cls ≠ .type "tuple") : b ≠ c := by
  obtain ⟨u, here, k, _⟩ := t
  intro e
  rw [e, at_] at here
  exact cls (by rw [Option.some.inj here]; exact k)
section told
variable {X : Cx} {pins : List (Addr × Obj)} {σ : L2.St} {H : Hp} {s : Shared} {ours : List Addr} {g : Heap} {tk : Nat}
/-- behind a walk's step: the tuple at T is new, our own objects are still nobody's -/
theorem told_new {T : Addr} {xs : List V} {us : List Value} (I : Inv X pins σ H s) (own : ∀ b ∈ ours, FpOk X pins H b)
    (live : ∀ b ∈ ours, ∃ o, s.heap.get? b = some o) (off : ∀ b o, b ∉ ours → s.heap.get? b = some o → g.get? b = some o)
    (new : s.heap.objs.size ≤ T) (made : IsTup g T us.toArray) (rel : Vals xs us) (few : xs.length ≤ sizeLine) :
    Inv X pins σ (upd H T (.tup xs)) { s with heap := g, toks := tk } ∧ H T = none ∧ ∀ b ∈ ours, upd H T (.tup xs) b = none :=
  ⟨I.turnedNew off own new ⟨few, us, rel, made⟩, I.hok.fresh new, fun b hb => by
    obtain ⟨o, at_⟩ := live b hb
    rw [upd_ne (Nat.ne_of_lt (Nat.lt_of_lt_of_le (Heap.lt_size at_) new))]
    exact (own b hb).1⟩
end told

/-! ### enumerate of a tuple -/
def IteT (K : PySem.W.Frag) (a : Addr) : It :=
  ⟨fun i H => ∃ (xs : List V) (x : V), SqT K H a xs ∧ xs[i]? = some x,
   fun i H v H' => ∃ T x, v = .ref T ∧ H T = none ∧ H' = upd H T (.tup [.int (i : Nat), x]) ∧ ∀ xs, SqT K H a xs → xs[i]? = some x,
   fun i H => ∃ xs : List V, SqT K H a xs ∧ xs.length = i⟩
/-- who counts at e, over the iterator at t of the tuple at a, i told -/
def EnT (a e t : Addr) (i : Nat) (g : Heap) : Prop := (∃ old, IsEnum g e t (i : Nat) old) ∧ g.IsTupleIter t a i ∧ e ≠ t
theorem EnT.live {a e t : Addr} {i : Nat} {g : Heap} (st : EnT a e t i g) : ∀ b ∈ [e, t], ∃ o, g.get? b = some o ∧ ∀ v, o.data ≠ .cell v := by
  obtain ⟨⟨old, he⟩, ⟨o, ho, _, dat⟩, _⟩ := st
  intro b hb
  cases hb with
  | head => exact ⟨_, he, fun v z => nomatch z⟩
  | tail _ hb =>
    obtain rfl := List.mem_singleton.mp hb
    exact ⟨o, ho, fun v z => nomatch (show Data.fields _ = Data.cell v from dat.symm.trans z)⟩
theorem turn_enumT {P : Program} {w : World} {K : PySem.W.Frag} {elts : List Expr} {kk : Nat} {tpos : Pos} (a e t : Addr) :
    Turn P w K (.Tuple elts kk tpos) (IteT K a) [e, t] e (EnT a e t) where
  mem := List.mem_cons_self
  obj := fun _ _ st => st.live
  keep := fun i g g' ⟨⟨old, he⟩, ht, ne⟩ k => ⟨⟨old, k e List.mem_cons_self _ he⟩, ht.at fun o => k t (List.mem_cons_of_mem _ List.mem_cons_self) o, ne⟩
  self := fun A i s Q E st q => by
    obtain ⟨⟨old, he⟩, _⟩ := st
    exact wpAny_pyIter_enum he q
  item := by
    intro X hP hw hK calm i pins s σ H E I own st go
    subst hP hw hK
    obtain ⟨xs, x, hq, hx⟩ := go
    obtain ⟨us, rel, tup, _⟩ := I.tuple hq
    obtain ⟨u, hu, ru⟩ := rel.get hx
    have live := st.live
    obtain ⟨⟨old, he⟩, ht, ne⟩ := st
    have at_ : a ≠ t := by
      obtain ⟨o, ho, cls, _⟩ := id ht
      exact not_tuple tup ho (by rw [cls]; decide)
    have ae : e ∉ [t, a] := by
      intro z
      cases z with
      | head => exact ne rfl
      | tail _ z => exact not_tuple tup he (by show Value.type "enumerate" ≠ .type "tuple"; decide) (List.mem_singleton.mp z).symm
    have walk := GoesN.enumFrom (elts := elts) (x1 := kk) (pos := tpos) 0
      (Draws.tuple (prog := X.prog) (w := X.w) (A := X.A.in1) (I.ok.hd calm) t a at_ us.toArray) e ne ae List.mem_cons_self
    refine walk.goes i s (fun v s2 => ∃ y H', Inv X pins σ H' s2 ∧ RelV y v ∧ (IteT X.K a).yld i H y H' ∧ EnT a e t (i + 1) s2.heap ∧ ∀ b ∈ [e, t], H' b = none) E
      ?_ ⟨⟨old, by rw [Int.zero_add]; exact he⟩, ht, tup⟩ ?_
    · rw [List.size_toArray]
      exact (List.getElem?_eq_some_iff.mp hu).1
    · rintro v g tk ⟨T, tok, y, rfl, new, hy, made⟩ ⟨⟨old2, he2⟩, ht2, _⟩ off _
      obtain rfl : y = u := Option.some.inj (by rw [← hu, ← hy, List.getElem?_toArray])
      rw [Int.zero_add] at made he2
      obtain ⟨J, free, none_⟩ := told_new (tk := tk) (xs := [.int (i : Nat), x]) (us := [.int i tok, y]) I own (fun b hb => let ⟨o, q, _⟩ := live b hb; ⟨o, q⟩) off new made
        (.cons ⟨tok, rfl⟩ (.cons ru .nil)) (by show 2 ≤ sizeLine; decide)
      exact ⟨.ref T, _, J, rfl, ⟨T, x, rfl, free, rfl, fun ys hy => by rw [I.tuple_inj hy hq]; exact hx⟩, ⟨⟨old2, he2⟩, ht2, ne⟩, none_⟩
  done := by
    intro X hP hw hK calm i pins s σ H E I own st go
    subst hP hw hK
    obtain ⟨xs, hq, rfl⟩ := go
    obtain ⟨us, rel, tup, _⟩ := I.tuple hq
    obtain ⟨⟨old, he⟩, ht, ne⟩ := st
    have at_ : a ≠ t := by
      obtain ⟨o, ho, cls, _⟩ := id ht
      exact not_tuple tup ho (by rw [cls]; decide)
    have ae : e ∉ [t, a] := by
      intro z
      cases z with
      | head => exact ne rfl
      | tail _ z => exact not_tuple tup he (by show Value.type "enumerate" ≠ .type "tuple"; decide) (List.mem_singleton.mp z).symm
    have walk := GoesN.enumFrom (elts := elts) (x1 := kk) (pos := tpos) 0
      (Draws.tuple (prog := X.prog) (w := X.w) (A := X.A.in1) (I.ok.hd calm) t a at_ us.toArray) e ne ae List.mem_cons_self
    have len : us.toArray.size = xs.length := by rw [List.size_toArray, rel.length]
    refine walk.stops s (fun s' => Inv X pins σ H s') E (by rw [len]; exact ⟨⟨old, by rw [Int.zero_add]; exact he⟩, ht, tup⟩) fun g tk off _ => I.turnedL (t' := tk) off own

def iEnumT (K : PySem.W.Frag) (ta : TA) : TI := fun σ H R => ta σ H fun vs H1 => ∃ a xs, vs = [.ref a] ∧ SqT K H1 a xs ∧ R (IteT K a) H1
theorem pi_enumT {X : Cx} {e : Expr} {ta : TA} {p pos tpos : Pos} {elts : List Expr} {kk : Nat} (hg : Gl X "enumerate")
    (hm : X.mg "enumerate" = none) (ha : PA X [e] ta) (hs : starEach [e] X.env = [(false, eval e X.env)] := by rfl) :
    PI X (.Tuple elts kk tpos) (.Call (.Name "enumerate" p) [e] [] pos) (iEnumT X.K ta) := by
  refine ⟨fun pins s σ H R I want => Call_ (ld_blt I hg hm boot_enumerate (PyProof.Rows.callWith_type1 (thn (ha.run pos pins s σ H _ I want) ?_) hs rfl))⟩
  rintro us s1 ⟨vs, H1, I1, rel, a, xs, rfl, hq, go⟩
  obtain rfl := rel.ref1
  obtain ⟨its, _, tup, _⟩ := I1.tuple hq
  refine counts_call (begins_tuple a its.toArray) tup fun g he ht up => wpAny_pyIter_enum he ?_
  have new : ∀ b ∈ [s1.heap.objs.size + 1, s1.heap.objs.size], s1.heap.objs.size ≤ b := by
    intro b hb
    simp only [List.mem_cons, List.not_mem_nil, or_false] at hb
    omega
  exact ⟨_, _, _, _, H1, rfl, I1.kept (t' := s1.toks) up, turn_enumT a (s1.heap.objs.size + 1) s1.heap.objs.size,
    ⟨⟨_, he⟩, ⟨_, ht, rfl, rfl⟩, Nat.succ_ne_self _⟩, fun b hb => I1.fpOk (new b hb) (I1.hok.fresh (new b hb)), go⟩
theorem walk_enumT {K : PySem.W.Frag} {a : Addr} {xs : List V} :
    Walk (IteT K a) xs.length (fun H => SqT K H a xs) (YPair (fun i => some (.int (i : Nat))) (fun i => xs[i]?)) := by
  refine ⟨fun i H lt q => ⟨xs, xs[i], q, List.getElem?_eq_getElem lt⟩, fun H q => ⟨xs, q, rfl⟩, ?_⟩
  rintro i H v H' _ q ⟨T, x, e, free, next, is⟩
  exact ⟨T, .int (i : Nat), x, e, free, next, rfl, is xs q⟩

/-! ### sum of a tuple of whole numbers -/
theorem sumT {X : Cx} (hc : X.calm = true) : CallR X (.builtin "sum") (fun vs H Q => ∃ (a : Addr) (ns : List Int),
    vs = [V.ref a] ∧ SqT X.K H a (ns.map V.int) ∧ Q (.int ns.sum) H) := by
  rintro pins s σ H xs us Q I r ⟨a, ns, rfl, hq, q⟩
  obtain rfl := r.ref1
  obtain ⟨its, rv, p, hz⟩ := I.tuple hq
  have hi : IntsAre its ns := rv.ints
  obtain ⟨ys, hy⟩ := hi.allInts.items
  have hn : numsOf its.toArray.toList = ns := by
    rw [show its.toArray.toList = its from rfl, hi.numsOf]
  have p' : s.heap.IsTuple a its.toArray := p
  rw [hy] at p' hn
  rw [nums_intItems] at hn
  refine PySem.W.ktm_sumG (I.ok.hd hc) p' ?_
  intro h' tk t' hk
  have e : preSum (numAt ys) ys.size = ns.sum := by
    rw [preSum_eq, List.take_of_length_le (by simp), hn]
  rw [e]
  exact ⟨.int ns.sum, H, I.kept hk, ⟨t', rfl⟩, q⟩

/-! ### a text so many times -/
def repText (z : Str) (n : Nat) : Str := ⟨(List.replicate n z.cps).foldl (· ++ ·) #[]⟩
/-! ### a tuple so many times, once and never, too -/
end MG

namespace MG
open PySem PySem.Spec PyProof.Rows L2

def rRepA (K : PySem.W.Frag) : R2 := fun x y H Q => ∃ l k xs, x = .ref l ∧ y = .int k ∧ SqT K H l xs ∧ xs ≠ [] ∧ 0 ≤ k ∧ k ≤ 1000 ∧
  xs.length ≤ 1000 ∧ (k = 1 → Q (.ref l) H) ∧ (k ≠ 1 → ∀ p, H p = none → Q (.ref p) (upd H p (.tup (List.replicate k.toNat xs).flatten)))
/-! ### data: None, truths, whole numbers, texts, lists, tuples, dicts with text keys -/
def kD : Key → PyData
  | .inl i => .int i
  | .inr x => .str x
mutual
inductive Dd (H : Hp) : V → PyData → Prop
  | non : Dd H .non .none
  | bl (b : Bool) : Dd H (.bl b) (.bool b)
  | int (i : Int) : Dd H (.int i) (.int i)
  | str (x : Str) : Dd H (.str x) (.str x)
  | lst {a : Addr} {xs : List V} {ds : List PyData} : H a = some (.lst xs) → DdAll H xs ds → Dd H (.ref a) (.list ds)
  | tup {a : Addr} {xs : List V} {ds : List PyData} : H a = some (.tup xs) → DdAll H xs ds → Dd H (.ref a) (.tuple ds)
  | dic {a : Addr} {kvs : List (Key × V)} {ds : List PyData} : H a = some (.dK kvs) → DdAll H (kvs.map (·.2)) ds →
      Dd H (.ref a) (.dict ((kvs.map fun p => kD p.1).zip ds))
inductive DdAll (H : Hp) : List V → List PyData → Prop
  | nil : DdAll H [] []
  | cons {v : V} {vs : List V} {d : PyData} {ds : List PyData} : Dd H v d → DdAll H vs ds → DdAll H (v :: vs) (d :: ds)
end
theorem DdAll.length {H : Hp} : ∀ {vs : List V} {ds : List PyData}, DdAll H vs ds → ds.length = vs.length
  | [], _, h => by cases h; rfl
  | v :: vs, _, h => by
    cases h with
    | cons _ t => rw [List.length_cons, List.length_cons, t.length]

section
variable {X : Cx} {pins : List (Addr × Obj)} {σ : L2.St} {H : Hp} {s : Shared}
theorem key_read {P : Program} {w : World} {h : Heap} {k : Key} {v : Value} (e : (mixKind P w).is k v = true) : Reads h v (kD k) [] := by
  rcases keyIs_shape (show keyIs k v = true from e) with ⟨i, t, rfl, rfl⟩ | ⟨x, t, rfl, rfl⟩
  · exact .int i t
  · exact .str x t
theorem pairs_read {P : Program} {w : World} {h : Heap} : ∀ {es : List DictEntry} {vs : List (Key × Value)} {kvs : List (Key × V)},
    Pairs (mixKind P w) es vs → KV kvs vs →
    ReadsAll h (es.map (·.key)) (kvs.map fun p => kD p.1) [] ∧ es.map (·.val) = vs.map (·.2) ∧ Vals (kvs.map (·.2)) (vs.map (·.2))
  | _, _, _, .nil, .nil => ⟨.nil, rfl, .nil⟩
  | _, _, _, .cons h1 h2 t, .cons r rt => by
    obtain ⟨a, b, c⟩ := pairs_read (h := h) t rt
    refine ⟨?_, ?_, .cons r.2 c⟩
    · rw [← r.1] at h1
      exact ReadsAll.cons (key_read h1) a
    · rw [List.map_cons, List.map_cons, b, h2]
theorem zip_fst {α β : Type} {xs : List α} {ys : List β} (h : xs.length = ys.length) : (xs.zip ys).map (·.1) = xs := by
  rw [show (fun x : α × β => x.1) = Prod.fst from rfl]
  exact List.map_fst_zip (Nat.le_of_eq h)
theorem zip_snd {α β : Type} {xs : List α} {ys : List β} (h : xs.length = ys.length) : (xs.zip ys).map (·.2) = ys := by
  rw [show (fun x : α × β => x.2) = Prod.snd from rfl]
  exact List.map_snd_zip (Nat.le_of_eq h.symm)
theorem not_sys {a : Addr} {o : Obj} {vs : Array Value} {n : Nat} (sys : SysD X.base) (I : L2.Inv X pins σ H s) (h : s.heap.get? a = some o) (hc : o.data = .seq vs n) : sysModules ≠ a := by
  rintro rfl
  obtain ⟨mm, u, es, ep, hu, du, _⟩ := sys
  have := I.bk _ _ hu
  rw [h] at this
  cases this
  rw [hc] at du
  cases du
mutual
theorem Dd.reads (sys : SysD X.base) (I : Inv X pins σ H s) : ∀ {v : V} {d : PyData}, Dd H v d → ∀ {u : Value}, RelV v u → ∃ as, Reads s.heap u d as ∧ sysModules ∉ as
  | _, _, .non, _, r => by cases r; exact ⟨_, .none, List.not_mem_nil⟩
  | _, _, .bl b, _, r => by cases r; exact ⟨_, .bool b, List.not_mem_nil⟩
  | _, _, .int i, _, r => by obtain ⟨t, rfl⟩ := r; exact ⟨_, .int i t, List.not_mem_nil⟩
  | _, _, .str x, _, r => by obtain ⟨t, rfl⟩ := r; exact ⟨_, .str x t, List.not_mem_nil⟩
  | _, _, .lst e h, _, r => by
    cases r
    obtain ⟨_, its, n, rv, ho⟩ := I.hok _ _ e
    obtain ⟨as, q, ns⟩ := DdAll.reads sys I h rv
    refine ⟨_, Reads.list ho rfl rfl q, ?_⟩
    intro z
    rcases List.mem_cons.mp z with z | z
    · exact not_sys sys I ho rfl z
    · exact ns z
  | _, _, .tup e h, _, r => by
    cases r
    obtain ⟨_, its, rv, o, ho, hc, n, hd⟩ := I.hok _ _ e
    obtain ⟨as, q, ns⟩ := DdAll.reads sys I h rv
    exact ⟨_, Reads.tuple ho hc hd q, ns⟩
  | _, _, .dic (kvs := kvs) (ds := ds) e h, _, r => by
    cases r
    obtain ⟨_, hne, vs, kv, o, es, ep, ho, hx, hd, _, hp, _⟩ := I.hok _ _ e
    obtain ⟨rk, hv, rvs⟩ := pairs_read (h := s.heap) hp kv
    obtain ⟨bs, q, ns⟩ := DdAll.reads sys I h rvs
    have hl : (kvs.map fun p => kD p.1).length = ds.length := by
      rw [h.length, List.length_map, List.length_map]
    refine ⟨_, Reads.dict (as := []) (bs := bs) ho hx.1 hd ?_ ?_, ?_⟩
    · rw [zip_fst hl]; exact rk
    · rw [zip_snd hl, hv]; exact q
    · intro z
      rcases List.mem_cons.mp (show sysModules ∈ _ :: bs from z) with z | z
      · rw [z] at hne
        simp at hne
      · exact ns z
theorem DdAll.reads (sys : SysD X.base) (I : Inv X pins σ H s) : ∀ {vs : List V} {ds : List PyData}, DdAll H vs ds → ∀ {us : List Value}, Vals vs us → ∃ as, ReadsAll s.heap us ds as ∧ sysModules ∉ as
  | _, _, .nil, _, r => by cases r; exact ⟨_, .nil, List.not_mem_nil⟩
  | _, _, .cons a b, _, r => by
    cases r with
    | cons r1 r2 =>
      obtain ⟨as, q1, n1⟩ := Dd.reads sys I a r1
      obtain ⟨bs, q2, n2⟩ := DdAll.reads sys I b r2
      refine ⟨_, .cons q1 q2, ?_⟩
      intro z
      rcases List.mem_append.mp z with z | z
      · exact n1 z
      · exact n2 z
end
/-- repr(x) -/
theorem call_repr (gd : X.A.guards = some []) (hu : X.A.units + 100 < cLine) (sys : SysD X.base) :
    CallR X (.builtin "repr") (fun xs H Q => ∃ x d, xs = [x] ∧ Dd H x d ∧ d.showable = true ∧ d.depth ≤ 60 ∧ d.shown.length ≤ sizeLine ∧ Q (.str d.shown) H) := by
  rintro pins s σ H xs us Q I r ⟨x, d, rfl, hd, hs, hdep, hz, q⟩
  obtain ⟨u, rfl, r1⟩ := vals1 r
  have fin : ∀ h' v tk, (∀ b o, s.heap.get? b = some o → h'.get? b = some o) →
      EP X pins σ Q (.str d.shown v) { s with heap := h', toks := tk } := fun h' v tk hk => ⟨.str d.shown, H, I.kept hk, ⟨v, rfl⟩, q⟩
  obtain ⟨as, rd, ns⟩ := Dd.reads sys I hd r1
  cases rd with
  | none => exact PySem.P.repr_of_none (fin s.heap s.toks (s.toks + 1) fun _ _ e => e)
  | bool b => exact PySem.P.repr_of_bool (fin s.heap s.toks (s.toks + 1) fun _ _ e => e)
  | int i t => exact PySem.P.repr_of_int (of_decide_eq_true hs) (fin s.heap s.toks (s.toks + 1) fun _ _ e => e)
  | str z t => exact PySem.P.repr_of_str (fin s.heap s.toks (s.toks + 1) fun _ _ e => e) hz
  | list h1 h2 h3 h4 => exact repr_of_reads' (.list h1 h2 h3 h4) hs (fun _ => ns) gd (by omega) (fun _ _ e => e) fin hz
  | tuple h1 h2 h3 h4 => exact repr_of_reads' (.tuple h1 h2 h3 h4) hs (fun _ => ns) gd (by omega) (fun _ _ e => e) fin hz
  | dict h1 h2 h3 h4 h5 => exact repr_of_reads' (.dict h1 h2 h3 h4 h5) hs (fun _ => ns) gd (by omega) (fun _ _ e => e) fin hz
end
end MG

namespace MG
open PySem PySem.Spec PyProof.Rows L2

/-- v is data in H: at most n deep, its repr at most c signs -/
def Da (H : Hp) (n c : Nat) (v : V) : Prop := ∃ d, Dd H v d ∧ d.showable = true ∧ d.depth ≤ n ∧ d.shown.length ≤ c
end MG

namespace MG
open PySem PySem.Spec PyProof.Rows L2

/-! ### f(a=.., b=..): every parameter by its name, in the def's order -/
def KB (K : PySem.W.Frag) (fd : FuncData) (ps : List Str) : Prop :=
  ∀ (s : Shared) (us : List Value), K.In s.heap → us.length = ps.length → BindsTo s fd ⟨[], ps.zip us⟩ (ps.zip us)
def tCallN (sp : Sp) (E : XK) (tk : TA) : TE := fun σ H Q => tk σ H fun zs H2 => sp zs H2 Q E
/-! ### isinstance of data -/
def tyN : PyData → String
  | .none => "NoneType"
  | .bool _ => "bool"
  | .int _ => "int"
  | .str _ => "str"
  | .list _ => "list"
  | .tuple _ => "tuple"
  | .dict _ => "dict"
def isIntD : PyData → Bool
  | .int _ | .bool _ => true
  | _ => false
def isBoolD : PyData → Bool
  | .bool _ => true
  | _ => false
def isTupD : PyData → Bool
  | .tuple _ => true
  | _ => false
end MG

/-! MG: twos, greatest common parts -/
namespace MG
open PySem

/-- how often 2 parts n (0 of 0) -/
def v2 (n : Nat) : Nat := if h : n = 0 then 0 else if n % 2 = 1 then 0 else v2 (n / 2) + 1
termination_by n
decreasing_by omega
theorem v2_odd {n : Nat} (h : n % 2 = 1) : v2 n = 0 := by
  rw [v2]
  simp [h]
theorem v2_even {n : Nat} (h0 : n ≠ 0) (h : n % 2 = 0) : v2 n = v2 (n / 2) + 1 := by
  rw [v2]
  rw [dif_neg h0, if_neg (by omega)]
theorem v2_mul2 {n : Nat} (h0 : n ≠ 0) : v2 (2 * n) = v2 n + 1 := by
  rw [v2_even (by omega) (by omega), show 2 * n / 2 = n by omega]
/-- n & (n - 1) takes the last one away -/
theorem land_pred : ∀ n : Nat, 0 < n → (n &&& (n - 1)) + 2 ^ v2 n = n := by
  intro n
  induction n using Nat.strongRecOn with
  | ind n ih =>
    intro hn
    have hd : (n &&& (n - 1)) / 2 = n / 2 &&& (n - 1) / 2 := Nat.and_div_two ..
    have hm := Nat.and_mod_two_eq_one (a := n) (b := n - 1)
    have hsplit := Nat.div_add_mod (n &&& (n - 1)) 2
    rcases Nat.mod_two_eq_zero_or_one n with h | h
    · have h2 : (n - 1) / 2 = n / 2 - 1 := by omega
      have hq : 0 < n / 2 := by omega
      have := ih (n / 2) (by omega) hq
      rw [h2] at hd
      have hz : (n &&& (n - 1)) % 2 = 0 := by
        rcases Nat.mod_two_eq_zero_or_one (n &&& (n - 1)) with z | z
        · exact z
        · have := (hm.mp z).1
          omega
      rw [v2_even (by omega) h, Nat.pow_succ]
      omega
    · have h2 : (n - 1) / 2 = n / 2 := by omega
      rw [h2, Nat.and_self] at hd
      have hz : (n &&& (n - 1)) % 2 = 0 := by
        rcases Nat.mod_two_eq_zero_or_one (n &&& (n - 1)) with z | z
        · exact z
        · have := (hm.mp z).2
          omega
      rw [v2_odd h]
      show _ + 1 = n
      omega
theorem low_bit {n : Int} (h : 0 < n) : Builtin.bitAnd n (-n) = 2 ^ v2 n.toNat := by
  have e : Builtin.bitNot (-n) = n - 1 := by
    show -(-n) - 1 = n - 1
    omega
  rw [PyProof.Rows.bitAnd_pn (by omega) (by omega), e]
  have h1 := land_pred n.toNat (by omega)
  have h2 : (n - 1).toNat = n.toNat - 1 := by omega
  rw [h2]
  have h3 : ((n.toNat &&& (n.toNat - 1) : Nat) : Int) + ((2 ^ v2 n.toNat : Nat) : Int) = n := by
    rw [← Int.natCast_add, h1]
    omega
  rw [show ((2 ^ v2 n.toNat : Nat) : Int) = 2 ^ v2 n.toNat from by rw [Int.natCast_pow]; rfl] at h3
  omega
theorem bits_pow (k : Nat) : (Builtin.Int.intBits ((2 : Int) ^ k) : Nat) = k + 1 := by
  unfold Builtin.Int.intBits
  have h0 : ((2 : Int) ^ k == 0) = false := by
    refine beq_eq_false_iff_ne.mpr ?_
    have : (0 : Int) < 2 ^ k := Int.pow_pos (by decide)
    omega
  rw [h0]
  have h1 : ((2 : Int) ^ k).natAbs = 2 ^ k := by
    rw [Int.natAbs_pow]
    rfl
  rw [if_neg Bool.false_ne_true, h1, Nat.log2_two_pow]
theorem pow_v2_dvd : ∀ n : Nat, 2 ^ v2 n ∣ n := by
  intro n
  induction n using Nat.strongRecOn with
  | ind n ih =>
    by_cases h0 : n = 0
    · subst h0; exact Nat.dvd_zero _
    · rcases Nat.mod_two_eq_zero_or_one n with h | h
      · rw [v2_even h0 h, Nat.pow_succ]
        have h1 := ih (n / 2) (by omega)
        have h2 : n = n / 2 * 2 := by omega
        rw [h2]
        exact Nat.mul_dvd_mul_right (by rw [show n / 2 * 2 / 2 = n / 2 by omega]; exact h1) 2
      · rw [v2_odd h]; exact Nat.one_dvd _
theorem v2_unique {n k m : Nat} (h : n = 2 ^ k * m) (hm : m % 2 = 1) : v2 n = k := by
  induction k generalizing n with
  | zero =>
    rw [Nat.pow_zero, Nat.one_mul] at h
    rw [h]; exact v2_odd hm
  | succ k ih =>
    have h0 : 2 ^ k * m ≠ 0 := by
      intro z
      rcases Nat.mul_eq_zero.mp z with z | z
      · exact absurd z (Nat.pos_iff_ne_zero.mp (Nat.two_pow_pos k))
      · omega
    rw [h, Nat.pow_succ, Nat.mul_comm (2 ^ k) 2, Nat.mul_assoc, v2_mul2 h0, ih rfl]
theorem odd_rest {n : Nat} (h : 0 < n) : n / 2 ^ v2 n % 2 = 1 := by
  induction n using Nat.strongRecOn with
  | ind n ih =>
    rcases Nat.mod_two_eq_zero_or_one n with z | z
    · rw [v2_even (by omega) z, Nat.pow_succ, Nat.mul_comm, ← Nat.div_div_eq_div_mul]
      exact ih (n / 2) (by omega) (by omega)
    · rw [v2_odd z, Nat.pow_zero, Nat.div_one]; exact z
theorem v2_split {n : Nat} (h : 0 < n) : n = 2 ^ v2 n * (n / 2 ^ v2 n) := (Nat.mul_div_cancel' (pow_v2_dvd n)).symm
theorem pow_dvd_iff {n k : Nat} (h : 0 < n) : 2 ^ k ∣ n ↔ k ≤ v2 n := by
  constructor
  · intro hd
    refine Nat.le_of_not_lt fun hlt => ?_
    have h1 : 2 ^ (v2 n + 1) ∣ n := Nat.dvd_trans (Nat.pow_dvd_pow 2 hlt) hd
    obtain ⟨c, hc⟩ := h1
    have h2 := odd_rest h
    have h3 : n / 2 ^ v2 n = 2 * c := by
      rw [hc]
      rw [← hc]
      have : n = 2 ^ v2 n * (2 * c) := by rw [← Nat.mul_assoc, ← Nat.pow_succ]; exact hc
      exact Nat.div_eq_of_eq_mul_right (Nat.two_pow_pos _) this
    omega
  · intro hk
    exact Nat.dvd_trans (Nat.pow_dvd_pow 2 hk) (pow_v2_dvd n)

/-- the greatest number that parts all -/
def gl : List Int → Nat
  | [] => 0
  | n :: r => Nat.gcd n.toNat (gl r)
theorem gl_append : ∀ (a b : List Int), gl (a ++ b) = Nat.gcd (gl a) (gl b)
  | [], b => by rw [List.nil_append, gl, Nat.gcd_zero_left]
  | n :: r, b => by rw [List.cons_append, gl, gl_append r b, gl, Nat.gcd_assoc]
theorem gl_dvd : ∀ {l : List Int} {n : Int}, n ∈ l → gl l ∣ n.toNat
  | m :: r, n, h => by
    rcases List.mem_cons.mp h with rfl | h
    · exact Nat.gcd_dvd_left _ _
    · exact Nat.dvd_trans (Nat.gcd_dvd_right _ _) (gl_dvd h)
theorem gl_pos : ∀ {l : List Int} {n : Int}, n ∈ l → 0 < n → 0 < gl l := fun {l n} h hn =>
  Nat.pos_of_ne_zero fun z => by
    have := gl_dvd h
    rw [z] at this
    have := Nat.eq_zero_of_zero_dvd this
    omega
theorem gl_mul (c : Int) (hc : 0 ≤ c) : ∀ {l : List Int}, (∀ n ∈ l, 0 ≤ n) → gl (l.map fun n => c * n) = c.toNat * gl l
  | [], _ => rfl
  | n :: r, h => by
    rw [List.map_cons, gl, gl, gl_mul c hc fun m hm => h m (List.mem_cons_of_mem _ hm), ← Nat.gcd_mul_left, Int.toNat_mul hc (h n List.mem_cons_self)]
/-- how many are parted by 2 no oftener than t -/
def fewT (t : Nat) (l : List Int) : List Int := l.filter fun n => decide (n > 0) && decide (v2 n.toNat ≤ t)
end MG

namespace K70
open PySem PySem.Spec PyProof.Rows L2 MG
def topS (i : Nat) : Stmt := PySem.Challenge.pw_matchgift_k70_whole_what_comes_of_what_c.main.body.getD i (.Pass ⟨0, 0, 0, 0⟩)
abbrev sBox : Stmt := topS 24
abbrev sTake : Stmt := topS 25
abbrev sOf : Stmt := topS 26
theorem same_upd {H : Hp} {p : Addr} {o : HO} (h : H p = none) : Same H (upd H p o) := fun b x e => by
  rw [upd_ne (ne_of_none e h)]
  exact e
theorem scBox : FnScope ["_law_script", "_law_k", "_law_cell", "_law_own"] ["_law_script", "_law_k"] (defScope sBox) := ⟨rfl, rfl, rfl, by decide +kernel, rfl, by decide +kernel, by decide +kernel⟩
theorem scTake : FnScope ["_law_box_here", "_law_many", "_law_digit", "_law_mixed"] ["_law_box_here", "_law_many"] (defScope sTake) := ⟨rfl, rfl, rfl, by decide +kernel, rfl, by decide +kernel, by decide +kernel⟩
theorem scOf : FnScope ["_law_box_here", "_law_some"] ["_law_box_here", "_law_some"] (defScope sOf) := ⟨rfl, rfl, rfl, by decide +kernel, rfl, by decide +kernel, by decide +kernel⟩

def Box (H : Hp) (b : Addr) (n : Nat) : Prop := ∃ o m c : Int, H b = some (.lst [.int o, .int m, .int c]) ∧ 0 ≤ o ∧ o < 10 ^ 240 ∧ 0 ≤ m ∧ m < 2305843009213693921 ∧ 0 ≤ c ∧ c ≤ n
theorem Box.le {H : Hp} {b : Addr} {n n' : Nat} (h : Box H b n) (hn : n ≤ n') : Box H b n' := by
  obtain ⟨o, m, c, e, h1, h2, h3, h4, h5, h6⟩ := h
  exact ⟨o, m, c, e, h1, h2, h3, h4, h5, by omega⟩

theorem bit (b : Bool) : (-(2 ^ 64) : Int) < (if b = true then 1 else 0) ∧ (if b = true then (1 : Int) else 0) < 2 ^ 64 := by
  cases b <;> decide
theorem modb (x : Int) : (-(2 ^ 64) : Int) < x % 2305843009213693921 ∧ x % 2305843009213693921 < 2 ^ 64 := by
  have h1 := Int.emod_nonneg x (show (2305843009213693921 : Int) ≠ 0 by decide)
  have h2 := Int.emod_lt_of_pos x (show (0 : Int) < 2305843009213693921 by decide)
  omega
theorem own0 (x : Int) (b : Bool) : 0 ≤ x % 10 ^ 240 * (if b = true then 1 else 0) := by
  have := Int.emod_nonneg x (show (10 : Int) ^ 240 ≠ 0 by decide)
  cases b with
  | false => rw [if_neg Bool.false_ne_true]; omega
  | true => rw [if_pos rfl]; omega
theorem own1 (x : Int) (b : Bool) : x % 10 ^ 240 * (if b = true then 1 else 0) < 10 ^ 240 := by
  have := Int.emod_lt_of_pos x (show (0 : Int) < 10 ^ 240 by decide)
  cases b with
  | false => rw [if_neg Bool.false_ne_true, Int.mul_zero]; decide
  | true => rw [if_pos rfl, Int.mul_one]; exact this
section
variable {P : Program} {w : World} {K : PySem.W.Frag} {mg : Str → Option Value} {base : Heap}
def spBox (K : PySem.W.Frag) : Sp := fun vs H Q _ => ∃ (a : Addr) (ns : List Int) (k : Int), vs = [.ref a, .int k] ∧ SqL K H a (ns.map V.int) ∧ 0 ≤ k ∧ k ≤ 63 ∧
  ∀ p H', H p = none → Same H H' → Box H' p 0 → (∀ a, a ≠ p → H' a = H a) → Q (.ref p) H'
theorem ok_box {f : Addr} {fd : FuncData} {k : Nat} (F : Fun K "_law_box" "_law_box" sBox f fd) (ml : mg "len" = none) (mab : mg "abs" = none) (mI : mg "int" = none) :
    FnOk P w K mg base CX0 (k + 1) f fd ["_law_script", "_law_k"] (spBox K) := by
  refine F.ok scBox (fun vs H Q E h => ?_) (fun cdv A outer s H vs Q E hr h => ?_)
  · obtain ⟨a, ns, k, rfl, _⟩ := h
    rfl
  · obtain ⟨a, ns, k, rfl, hS, k0, k1, q⟩ := h
    refine ⟨_, pss_cons (ps_set (i := 2) scBox.nd rfl (.inl rfl) (pe_ifExp
          (pt_cmpR op_lt (pv 1) (pe_callB call_len_seq (by rfl) ml PySem.boot_len (pa_cons (pv 0) pa_nil)) (nomark _))
          (pe_ix ix_list (pv 0) (pv 1) (fun _ _ => rfl)) pe_int))
      (pss_cons (ps_set (i := 3) scBox.nd rfl (.inl rfl) (pe_op op_mul
          (pe_op op_mod (pe_callB call_abs (by rfl) mab (by decide +kernel) (pa_cons (pv 2) pa_nil))
            (pe_op op_mulW (pe_op op_mulW (pe_op op_mulW (pe_op op_pow pe_int pe_int) (pe_op op_pow pe_int pe_int)) (pe_op op_pow pe_int pe_int)) (pe_op op_pow pe_int pe_int)))
          (pe_callTy call_int1 (by rfl) mI (by decide +kernel) (pa_cons (pe_cmpR op_ge (pe_callB call_abs (by rfl) mab (by decide +kernel) (pa_cons (pv 2) pa_nil)) (pe_op op_pow pe_int pe_int) (nomark _)) pa_nil))))
      (pss_one (ps_ret (pe_lst (pa_cons (pv 3) (pa_cons
          (pe_op op_mod (pe_op op_mul (pe_op op_add (pe_op op_add (pe_op op_mod (pv 2) pe_int) (pe_op op_mul (pe_op op_mul pe_int (pv 1)) (pv 1))) pe_int) pe_int) pe_int)
          (pa_cons pe_int pa_nil))))))), ?_⟩
    have fin : ∀ o : Int, 0 ≤ o → o < 10 ^ 240 → ∀ m : Int, 0 ≤ m → m < 2305843009213693921 → ∀ p, H p = none → Q (.ref p) (upd H p (.lst [.int o, .int m, .int 0])) := by
      intro o o0 o1 m m0 m1 p hp
      refine q p _ hp (same_upd hp) ⟨o, m, 0, upd_same, o0, o1, m0, m1, by omega, by omega⟩ ?_
      intro a ha
      exact upd_ne ha
    have kk : (-(2 ^ 64) : Int) < k ∧ k < 2 ^ 64 := ⟨by omega, by omega⟩
    have w1 : CMulW ((10 : Int) ^ (60 : Int).toNat) (10 ^ (60 : Int).toNat) := by unfold CMulW; decide +kernel
    have w2 : CMulW ((10 : Int) ^ (60 : Int).toNat * 10 ^ (60 : Int).toNat) (10 ^ (60 : Int).toNat) := by unfold CMulW; decide +kernel
    have w3 : CMulW ((10 : Int) ^ (60 : Int).toNat * 10 ^ (60 : Int).toNat * 10 ^ (60 : Int).toNat) (10 ^ (60 : Int).toNat) := by unfold CMulW; decide +kernel
    have cp : CPow 10 60 := ⟨by decide, by decide, by decide⟩
    have cq : CPow 10 18 := ⟨by decide, by decide, by decide⟩
    have pos : (0 : Int) < 10 ^ (60 : Int).toNat * 10 ^ (60 : Int).toNat * 10 ^ (60 : Int).toNat * 10 ^ (60 : Int).toNat := by decide +kernel
    have emod : (10 : Int) ^ (60 : Int).toNat * 10 ^ (60 : Int).toNat * 10 ^ (60 : Int).toNat * 10 ^ (60 : Int).toNat = 10 ^ 240 := by decide +kernel
    refine ⟨_, rfl, .ref a, rfl, a, _, rfl, .inl hS, _, _, rfl, rfl, _, rfl, ite2 (fun hk => ?_) (fun hk => ?_)⟩
    · have hk' := of_decide_eq_true hk
      rw [List.length_map] at hk'
      obtain ⟨j, rfl⟩ : ∃ j : Nat, k = (j : Int) := ⟨k.toNat, by omega⟩
      have hj : j < ns.length := by omega
      refine ⟨.ref a, rfl, _, rfl, a, _, (j : Int), .int ns[j], rfl, rfl, hS, atI_nat (by rw [List.getElem?_map, List.getElem?_eq_getElem hj]; rfl), ?_⟩
      generalize ns[j] = cell
      refine ⟨.int cell, rfl, cell, rfl, 10, 60, rfl, rfl, cp, 10, 60, rfl, rfl, cp, _, _, rfl, rfl, w1, 10, 60, rfl, rfl, cp, _, _, rfl, rfl, w2, 10, 60, rfl, rfl, cp, _, _, rfl, rfl, w3, _, _, rfl, rfl, pos, ?_⟩
      refine ⟨.int cell, rfl, cell, rfl, 10, 18, rfl, rfl, cq, _, _, rfl, rfl, .inr ⟨_, rfl, _, _, rfl, rfl, .inr (bit _), ?_⟩⟩
      refine ⟨_, rfl, _, rfl, cell, 2305843009213693951, rfl, rfl, (by show (0 : Int) < 2305843009213693951; decide), _, rfl, 7919, (j : Int), rfl, rfl, .inl ⟨by decide, by decide⟩, _, rfl, _, (j : Int), rfl, rfl, .inr kk, _, _, rfl, rfl, _, 43, rfl, rfl, _, 48271, rfl, rfl, .inr ⟨by decide, by decide⟩, _, _, rfl, rfl, (by show (0 : Int) < 2305843009213693921; decide), ?_⟩
      refine ⟨by show 3 ≤ sizeLine; decide, ?_⟩
      rw [emod]
      exact fin _ (own0 _ _) (own1 _ _) _ (Int.emod_nonneg _ (by decide)) (Int.emod_lt_of_pos _ (by decide))
    · skip
      refine ⟨.int 0, rfl, 0, rfl, 10, 60, rfl, rfl, cp, 10, 60, rfl, rfl, cp, _, _, rfl, rfl, w1, 10, 60, rfl, rfl, cp, _, _, rfl, rfl, w2, 10, 60, rfl, rfl, cp, _, _, rfl, rfl, w3, _, _, rfl, rfl, pos, ?_⟩
      refine ⟨.int 0, rfl, 0, rfl, 10, 18, rfl, rfl, cq, _, _, rfl, rfl, .inr ⟨_, rfl, _, _, rfl, rfl, .inr (bit _), ?_⟩⟩
      refine ⟨_, rfl, _, rfl, 0, 2305843009213693951, rfl, rfl, (by show (0 : Int) < 2305843009213693951; decide), _, rfl, 7919, k, rfl, rfl, .inl ⟨by decide, by decide⟩, _, rfl, _, k, rfl, rfl, .inr kk, _, _, rfl, rfl, _, 43, rfl, rfl, _, 48271, rfl, rfl, .inr ⟨by decide, by decide⟩, _, _, rfl, rfl, (by show (0 : Int) < 2305843009213693921; decide), ?_⟩
      refine ⟨by show 3 ≤ sizeLine; decide, ?_⟩
      rw [emod]
      exact fin _ (own0 _ _) (own1 _ _) _ (Int.emod_nonneg _ (by decide)) (Int.emod_lt_of_pos _ (by decide))

def spTake : Sp := fun vs H Q _ => ∃ b many n, vs = [.ref b, .int many] ∧ Box H b n ∧ n ≤ 1000000 ∧ 1 ≤ many ∧ many ≤ 10 ^ 40 ∧
  ∀ r H', 0 ≤ r → r < many → Box H' b (n + 1) → (∀ a, a ≠ b → H' a = H a) → Q (.int r) H'
theorem ok_take {f : Addr} {fd : FuncData} {k : Nat} (F : Fun K "_law_take" "_law_take" sTake f fd) :
    FnOk P w K mg base CX0 (k + 1) f fd ["_law_box_here", "_law_many"] spTake := by
  refine F.ok scTake (fun vs H Q E h => ?_) (fun cdv A outer s H vs Q E hr h => ?_)
  · obtain ⟨b, many, n, rfl, _⟩ := h
    rfl
  · obtain ⟨b, many, n, rfl, ⟨o, m, c, e, h1, h2, h3, h4, h5, h6⟩, hn, m1, m2, q⟩ := h
    refine ⟨_, pss_cons (ps_if (pt_cmpR op_gt (pe_ix ix_list (pv 0) pe_int (fun _ _ => rfl)) pe_int (nomark _))
        (pss_cons (ps_set (i := 2) scTake.nd rfl (.inl rfl) (pe_op op_mod (pe_ix ix_list (pv 0) pe_int (fun _ _ => rfl)) (pv 1)))
        (pss_cons (ps_asg (pe_op op_fdivW (pe_ix ix_list (pv 0) pe_int (fun _ _ => rfl)) (pv 1)) (pg_sub (pv 0) pe_int set_list))
        (pss_one (ps_ret (pv 2))))) pss_nil)
      (pss_cons (ps_asg (pe_op op_add (pe_ix ix_list (pv 0) pe_int (fun _ _ => rfl)) pe_int) (pg_sub (pv 0) pe_int set_list))
      (pss_cons (ps_set (i := 3) scTake.nd rfl (.inl rfl) (pe_op op_mod (pe_op op_mul
          (pe_op op_add (pe_op op_add (pe_ix ix_list (pv 0) pe_int (fun _ _ => rfl)) (pe_op op_mul (pe_op op_mul pe_int (pe_ix ix_list (pv 0) pe_int (fun _ _ => rfl))) (pe_ix ix_list (pv 0) pe_int (fun _ _ => rfl)))) pe_int) pe_int) pe_int))
      (pss_cons (ps_set (i := 3) scTake.nd rfl (.inl rfl) (pe_op op_mod (pe_op op_mul (pv 3)
          (pe_op op_add (pe_op op_mod (pv 3) pe_int) (pe_op op_mul pe_int (pe_ix ix_list (pv 0) pe_int (fun _ _ => rfl))))) pe_int))
      (pss_one (ps_ret (pe_op op_mod (pe_op op_add (pe_op op_fdiv (pv 3) pe_int) (pe_op op_fdiv (pv 3) pe_int)) (pv 1))))))), ?_⟩
    have hdiv : CDivW o many := wide_div (b := 200) (by omega) (by omega) (by decide) (by decide)
    have hmany : (fun (_ j : Int) => 0 < j) o many := show 0 < many by omega
    refine ⟨.ref b, rfl, b, _, 0, .int o, rfl, rfl, SqL.of e, atI_nat (j := 0) rfl, o, 0, rfl, rfl, _, rfl, ite2 (fun ho => ?_) (fun ho => ?_)⟩
    · refine ⟨.ref b, rfl, b, _, 0, .int o, rfl, rfl, SqL.of e, atI_nat (j := 0) rfl, _, rfl, o, many, rfl, rfl, hmany, ?_⟩
      refine ⟨.ref b, rfl, b, _, 0, .int o, rfl, rfl, SqL.of e, atI_nat (j := 0) rfl, _, rfl, o, many, rfl, rfl, hdiv, .ref b, rfl, b, _, 0, 0, rfl, rfl, e, rfl, ?_⟩
      refine ⟨_, rfl, ?_⟩
      refine q _ _ (Int.emod_nonneg _ (by omega)) (Int.emod_lt_of_pos _ (by omega)) ⟨o / many, m, c, upd_same, ?_, ?_, h3, h4, h5, by omega⟩ ?_
      · exact Int.ediv_nonneg h1 (by omega)
      · exact Int.lt_of_le_of_lt (Int.ediv_le_self _ h1) h2
      · intro a ha
        exact upd_ne ha
    · have hc1 : (-(2 ^ 64) : Int) < c + 1 ∧ c + 1 < 2 ^ 64 := ⟨by omega, by omega⟩
      refine ⟨.ref b, rfl, b, _, 2, .int c, rfl, rfl, SqL.of e, atI_nat (j := 2) rfl, c, 1, rfl, rfl, .ref b, rfl, b, _, 2, 2, rfl, rfl, e, rfl, ?_⟩
      generalize hH : upd H b (HO.lst (List.set [V.int o, V.int m, V.int c] 2 (V.int (c + 1)))) = H2
      have e2 : H2 b = some (.lst [.int o, .int m, .int (c + 1)]) := by rw [← hH]; exact upd_same
      have off : ∀ a, a ≠ b → H2 a = H a := fun a ha => by rw [← hH]; exact upd_ne ha
      refine ⟨.ref b, rfl, b, _, 1, .int m, rfl, rfl, SqL.of e2, atI_nat (j := 1) rfl, .ref b, rfl, b, _, 2, .int (c + 1), rfl, rfl, SqL.of e2, atI_nat (j := 2) rfl, 65537, c + 1, rfl, rfl, .inr hc1, .ref b, rfl, b, _, 2, .int (c + 1), rfl, rfl, SqL.of e2, atI_nat (j := 2) rfl, _, c + 1, rfl, rfl, .inr hc1, m, _, rfl, rfl, _, 11, rfl, rfl, _, 48271, rfl, rfl, .inr ⟨by decide, by decide⟩, _, _, rfl, rfl, (by show (0 : Int) < 2305843009213693921; decide), ?_⟩
      refine ⟨_, rfl, _, rfl, _, 1000003, rfl, rfl, (by show (0 : Int) < 1000003; decide), .ref b, rfl, b, _, 2, .int (c + 1), rfl, rfl, SqL.of e2, atI_nat (j := 2) rfl, 99991, c + 1, rfl, rfl, .inr hc1, _, _, rfl, rfl, _, _, rfl, rfl, .inl (modb _), _, _, rfl, rfl, (by show (0 : Int) < 2305843009213693907; decide), ?_⟩
      refine ⟨_, rfl, _, 97, rfl, rfl, ⟨by decide, by decide⟩, _, rfl, _, 1000033, rfl, rfl, ⟨by decide, by decide⟩, _, _, rfl, rfl, .int many, rfl, _, many, rfl, rfl, (by show (0 : Int) < many; omega), ?_⟩
      refine q _ _ (Int.emod_nonneg _ (by omega)) (Int.emod_lt_of_pos _ (by omega)) ⟨o, m, c + 1, e2, h1, h2, h3, h4, by omega, by omega⟩ off

def spOf : Sp := fun vs H Q _ => ∃ b l n xs, vs = [.ref b, .ref l] ∧ Box H b n ∧ n ≤ 1000000 ∧ H l = some (.lst xs) ∧ b ≠ l ∧ 1 ≤ xs.length ∧ xs.length ≤ 1000 ∧
  ∀ x H', x ∈ xs → Box H' b (n + 1) → (∀ a, a ≠ b → H' a = H a) → Q x H'
theorem ok_of {f fT : Addr} {fd fdT : FuncData} {k : Nat} (F : Fun K "_law_of" "_law_of" sOf f fd) (FT : Fun K "_law_take" "_law_take" sTake fT fdT) (bT : Binds K fdT ["_law_box_here", "_law_many"] [])
    (gT : mg "_law_take" = some (.ref fT)) (ml : mg "len" = none) :
    FnOk P w K mg base CX0 (k + 2) f fd ["_law_box_here", "_law_some"] spOf := by
  have GT : FnOk P w K mg base CX0 (k + 1) fT fdT ["_law_box_here", "_law_many"] spTake := ok_take FT
  refine F.ok scOf (fun vs H Q E h => ?_) (fun cdv A outer s H vs Q E hr h => ?_)
  · obtain ⟨b, l, n, xs, rfl, _⟩ := h
    rfl
  · obtain ⟨b, l, n, xs, rfl, hB, hn, hx, ne, l1, l2, q⟩ := h
    refine ⟨_, pss_one (ps_ret (pe_ix ix_list (pv 1) (pe_call GT hr (by rfl) gT FT.kp bT .nil pass0 (pa_cons (pv 0) (pa_cons
      (pe_callB call_len_seq (by rfl) ml PySem.boot_len (pa_cons (pv 1) pa_nil)) pa_nil))) (fun _ _ => rfl))), ?_⟩
    refine ⟨.ref l, rfl, .ref b, rfl, .ref l, rfl, l, xs, rfl, .inl (SqL.of hx), b, (xs.length : Int), n, rfl, hB, hn, by omega, by omega, ?_⟩
    intro r H' r0 r1 hB' hk
    have hxl : H' l = some (.lst xs) := by rw [hk l (Ne.symm ne)]; exact hx
    obtain ⟨j, rfl⟩ : ∃ j : Nat, r = (j : Int) := ⟨r.toNat, by omega⟩
    have hj : j < xs.length := by omega
    exact ⟨l, xs, (j : Int), xs[j], rfl, rfl, SqL.of hxl, atI_nat (List.getElem?_eq_getElem hj), q _ H' (List.getElem_mem hj) hB' hk⟩
end
/-! ### what stays while the box is drawn from -/
def SX (b : Addr) (H H' : Hp) : Prop := ∀ a o, a ≠ b → H a = some o → H' a = some o
theorem SX.refl (b : Addr) (H : Hp) : SX b H H := fun _ _ _ h => h
theorem SX.trans {b : Addr} {H H1 H2 : Hp} (x : SX b H H1) (y : SX b H1 H2) : SX b H H2 := fun a o n h => y a o n (x a o n h)
theorem SX.of_same {b : Addr} {H H' : Hp} (h : Same H H') : SX b H H' := fun a o _ e => h a o e
theorem SX.of_eq {b : Addr} {H H' : Hp} (h : ∀ a, a ≠ b → H' a = H a) : SX b H H' := fun a o n e => by rw [h a n]; exact e
theorem SX.new {b : Addr} {H H' : Hp} {p : Addr} {o : HO} (x : SX b H H') (hp : H' p = none) : SX b H (upd H' p o) := x.trans (.of_same (same_upd hp))
theorem SX.free {b p : Addr} {H H' : Hp} {n : Nat} (x : SX b H H') (hB : Box H' b n) (h : H' p = none) : H p = none := by
  cases e : H p with
  | none => rfl
  | some o =>
    by_cases hb : p = b
    · subst hb
      obtain ⟨_, _, _, z, _⟩ := hB
      rw [h] at z
      cases z
    · rw [x p o hb e] at h
      cases h
theorem Box.at {H H' : Hp} {b : Addr} {n : Nat} (h : Box H b n) (e : H' b = H b) : Box H' b n := by
  obtain ⟨o, m, c, z, r⟩ := h
  exact ⟨o, m, c, by rw [e]; exact z, r⟩
theorem Box.new {H : Hp} {b p : Addr} {n : Nat} {o : HO} (h : Box H b n) (hp : H p = none) : Box (upd H p o) b n := by
  obtain ⟨_, _, _, z, _⟩ := id h
  exact h.at (upd_ne (ne_of_none z hp))
end K70

namespace K70
open PySem PySem.Spec PyProof.Rows L2 MG
abbrev sTwosIn : Stmt := topS 1
abbrev sOddPart : Stmt := topS 2
abbrev sCommon : Stmt := topS 3
abbrev sUnit : Stmt := topS 4
abbrev sMeasure : Stmt := topS 5
abbrev sTwos : Stmt := topS 6
abbrev sOddOnes : Stmt := topS 7
theorem scTwosIn : FnScope ["n"] ["n"] (defScope sTwosIn) := ⟨rfl, rfl, rfl, by decide +kernel, rfl, by decide +kernel, by decide +kernel⟩
theorem scOddPart : FnScope ["n"] ["n"] (defScope sOddPart) := ⟨rfl, rfl, rfl, by decide +kernel, rfl, by decide +kernel, by decide +kernel⟩
theorem scCommon : FnScope ["a", "b"] ["a", "b"] (defScope sCommon) := ⟨rfl, rfl, rfl, by decide +kernel, rfl, by decide +kernel, by decide +kernel⟩
theorem scUnit : FnScope ["row", "greatest", "amount"] ["row"] (defScope sUnit) := ⟨rfl, rfl, rfl, by decide +kernel, rfl, by decide +kernel, by decide +kernel⟩
theorem scMeasure : FnScope ["row"] ["row"] (defScope sMeasure) := ⟨rfl, rfl, rfl, by decide +kernel, rfl, by decide +kernel, by decide +kernel⟩
theorem scTwos : FnScope ["row"] ["row"] (defScope sTwos) := ⟨rfl, rfl, rfl, by decide +kernel, rfl, by decide +kernel, by decide +kernel⟩
theorem scOddOnes : FnScope ["row", "fewest_twos", "amount"] ["row"] (defScope sOddOnes) := ⟨rfl, rfl, rfl, by decide +kernel, rfl, by decide +kernel, by decide +kernel⟩

theorem gl_take_succ (ns : List Int) (i : Nat) (h : i < ns.length) : gl (ns.take (i + 1)) = Nat.gcd (gl (ns.take i)) ns[i].toNat := by
  rw [List.take_add_one, List.getElem?_eq_getElem h, gl_append]
  show Nat.gcd _ (Nat.gcd _ 0) = _
  rw [Nat.gcd_zero_right]

section
variable {P : Program} {w : World} {K : PySem.W.Frag} {mg : Str → Option Value} {base : Heap}
def spTwosIn : Sp := fun vs H Q _ => ∃ n : Int, vs = [.int n] ∧ 0 < n ∧ Q (.int (v2 n.toNat : Nat)) H
theorem ok_twosIn {f : Addr} {fd : FuncData} {k : Nat} (F : Fun K "twos_in" "twos_in" sTwosIn f fd) : FnOk P w K mg base CX0 (k + 1) f fd ["n"] spTwosIn := by
  refine F.ok scTwosIn (fun vs H Q E h => ?_) (fun cdv A outer s H vs Q E hr h => ?_)
  · obtain ⟨n, rfl, _⟩ := h
    rfl
  · obtain ⟨n, rfl, hn, q⟩ := h
    refine ⟨_, pss_one (ps_ret (pe_op op_sub (pe_bits (pe_op op_and (pv 0) (pe_un un_neg (pv 0)))) pe_int)), ?_⟩
    refine ⟨_, rfl, _, rfl, n, rfl, n, -n, rfl, rfl, _, rfl, _, 1, rfl, rfl, ?_⟩
    rw [low_bit hn, bits_pow]
    show Q (.int (((v2 n.toNat + 1 : Nat) : Int) - 1)) H
    rw [show (((v2 n.toNat + 1 : Nat) : Int) - 1) = ((v2 n.toNat : Nat) : Int) by omega]
    exact q
def spOddPart : Sp := fun vs H Q _ => ∃ n : Int, vs = [.int n] ∧ 0 < n ∧ Q (.int (n / 2 ^ v2 n.toNat)) H
theorem ok_oddPart {f fT : Addr} {fd fdT : FuncData} {k : Nat} (F : Fun K "odd_part" "odd_part" sOddPart f fd) (FT : Fun K "twos_in" "twos_in" sTwosIn fT fdT) (bT : Binds K fdT ["n"] []) (gT : mg "twos_in" = some (.ref fT)) :
    FnOk P w K mg base CX0 (k + 2) f fd ["n"] spOddPart := by
  have GT : FnOk P w K mg base CX0 (k + 1) fT fdT ["n"] spTwosIn := ok_twosIn FT
  refine F.ok scOddPart (fun vs H Q E h => ?_) (fun cdv A outer s H vs Q E hr h => ?_)
  · obtain ⟨n, rfl, _⟩ := h
    rfl
  · obtain ⟨n, rfl, hn, q⟩ := h
    refine ⟨_, pss_one (ps_ret (pe_op op_shr (pv 0) (pe_call GT hr (by rfl) gT FT.kp bT .nil pass0 (pa_cons (pv 0) pa_nil)))), ?_⟩
    refine ⟨_, rfl, _, rfl, n, rfl, hn, n, _, rfl, rfl, Int.natCast_nonneg _, ?_⟩
    exact q
def spCommon : Sp := fun vs H Q _ => ∃ a b : Nat, vs = [.int a, .int b] ∧ Q (.int (Nat.gcd a b : Nat)) H
theorem ok_common {f : Addr} {fd : FuncData} {k : Nat} (F : Fun K "common_part" "common_part" sCommon f fd) : FnOk P w K mg base CX0 (k + 1) f fd ["a", "b"] spCommon := by
  refine F.ok scCommon (fun vs H Q E h => ?_) (fun cdv A outer s H vs Q E hr h => ?_)
  · obtain ⟨a, b, rfl, _⟩ := h
    rfl
  · obtain ⟨a, b, rfl, q⟩ := h
    refine ⟨_, pss_cons (ps_while PassesOwn.never (pt_cmpR op_gt (pv 1) pe_int (nomark _)) (pss_one (ps_par (i := 0) (j := 1) rfl scCommon.nd rfl rfl (by decide) rfl rfl (pa_cons (pv 1) (pa_cons (pe_op op_mod (pv 0) (pv 1)) pa_nil)) (by rfl))))
      (pss_one (ps_ret (pv 0))), ?_⟩
    refine while_by (fun σ H' => ∃ x y : Nat, σ = [some (.int x), some (.int y)] ∧ H' = H ∧ Nat.gcd x y = Nat.gcd a b) (fun σ _ => match σ with | [_, some (.int y)] => y.toNat | _ => 0) ⟨a, b, rfl, rfl, rfl⟩ ?_ ?_
    · rintro σ H' ⟨x, y, rfl, rfl, hg⟩
      refine ⟨_, rfl, (y : Int), 0, rfl, rfl, _, rfl, ite2 (fun hy => ?_) (fun hy => ?_)⟩
      · have hy' : 0 < y := by have := of_decide_eq_true hy; omega
        refine ⟨_, rfl, _, rfl, _, rfl, (x : Int), (y : Int), rfl, rfl, (by show (0 : Int) < y; omega), _, _, rfl, ⟨y, x % y, ?_, rfl, ?_⟩, ?_⟩
        · rw [Int.natCast_emod]; rfl
        · rw [← hg, Nat.gcd_comm x y, Nat.gcd_rec y x, Nat.gcd_comm]
        · show ((x : Int) % (y : Int)).toNat < (y : Int).toNat
          rw [← Int.natCast_emod]
          have := Nat.mod_lt x hy'
          omega
      · have hy' : y = 0 := by
          have : ¬ (y : Int) > 0 := fun z => hy (decide_eq_true z)
          omega
        subst hy'
        rw [Nat.gcd_zero_right] at hg
        refine ⟨_, rfl, ?_⟩
        rw [hg]
        exact q
    · rintro σ H' Q1 Q2 hq ⟨x, e1, i, j, e2, e3, z, e4, h⟩
      exact ⟨x, e1, i, j, e2, e3, z, e4, hq _ _ h⟩
def Row (H : Hp) (a : Addr) (ns : List Int) : Prop := H a = some (.tup (ns.map V.int)) ∧ (∀ n ∈ ns, 0 ≤ n ∧ n < 2 ^ 250) ∧ ns.length ≤ 40 ∧ ∃ n ∈ ns, 0 < n
theorem Row.same {H H' : Hp} {a : Addr} {ns : List Int} (r : Row H a ns) (s : Same H H') : Row H' a ns := ⟨s _ _ r.1, r.2⟩
theorem Row.pos {H : Hp} {a : Addr} {ns : List Int} (r : Row H a ns) : 0 < gl ns := by
  obtain ⟨_, _, _, n, hn, h0⟩ := r
  exact gl_pos hn h0
def spUnit : Sp := fun vs H Q _ => ∃ a ns, vs = [.ref a] ∧ Row H a ns ∧ Q (.int (gl ns : Nat)) H
theorem ok_unit {f fC : Addr} {fd fdC : FuncData} {k : Nat} (F : Fun K "unit" "unit" sUnit f fd) (FC : Fun K "common_part" "common_part" sCommon fC fdC) (bC : Binds K fdC ["a", "b"] []) (gC : mg "common_part" = some (.ref fC)) :
    FnOk P w K mg base CX0 (k + 2) f fd ["row"] spUnit := by
  have GC : FnOk P w K mg base CX0 (k + 1) fC fdC ["a", "b"] spCommon := ok_common FC
  refine F.ok scUnit (fun vs H Q E h => ?_) (fun cdv A outer s H vs Q E hr h => ?_)
  · obtain ⟨a, ns, rfl, _⟩ := h
    rfl
  · obtain ⟨a, ns, rfl, r, q⟩ := h
    refine ⟨_, pss_cons (ps_set (i := 1) scUnit.nd rfl (.inl rfl) pe_int) (pss_cons (ps_for PassesOwn.never rfl (pi_tup (pv 0)) (pg_name (i := 2) scUnit.nd rfl (.inl rfl))
        (pss_one (ps_set (i := 1) scUnit.nd rfl (.inl rfl) (pe_call GC hr (by rfl) gC FC.kp bC .nil pass0 (pa_cons (pv 1) (pa_cons (pv 2) pa_nil))))))
      (pss_one (ps_ret (pv 1)))), ?_⟩
    refine ⟨.ref a, rfl, a, rfl, ⟨_, SqT.of r.1⟩, ?_⟩
    refine for_tup (K := K) (a := a) (xs := ns.map V.int) (fun i σ H' => ∃ y2, σ = [some (.ref a), some (.int (gl (ns.take i) : Nat)), y2] ∧ H' = H) ⟨none, rfl, rfl⟩ ?_ ?_ ?_
    · rintro i σ H' _ ⟨y2, rfl, rfl⟩
      exact SqT.of r.1
    · rintro i x σ H' hx ⟨y2, rfl, rfl⟩
      rw [List.getElem?_map] at hx
      obtain ⟨n, hn, rfl⟩ := Option.map_eq_some_iff.mp hx
      obtain ⟨hi, hn'⟩ := List.getElem?_eq_some_iff.mp hn
      have h0 : 0 ≤ n := (r.2.1 n (List.mem_of_getElem? hn)).1
      refine ⟨_, rfl, _, rfl, gl (ns.take i), n.toNat, by rw [Int.toNat_of_nonneg h0]; rfl, some (.int n), ?_, rfl⟩
      rw [gl_take_succ ns i hi, hn']
      rfl
    · rintro σ H' ⟨y2, rfl, rfl⟩
      rw [List.length_map, List.take_length]
      exact ⟨_, rfl, q⟩
def spMeasure : Sp := fun vs H Q _ => ∃ a ns, vs = [.ref a] ∧ Row H a ns ∧ Q (.int ((gl ns : Nat) / 2 ^ v2 (gl ns))) H
def spTwos : Sp := fun vs H Q _ => ∃ a ns, vs = [.ref a] ∧ Row H a ns ∧ Q (.int (v2 (gl ns) : Nat)) H
theorem ok_measure {f fO fU : Addr} {fd fdO fdU : FuncData} {k : Nat} (F : Fun K "measure" "measure" sMeasure f fd) (FO : Fun K "odd_part" "odd_part" sOddPart fO fdO) (bO : Binds K fdO ["n"] []) (gO : mg "odd_part" = some (.ref fO)) (GO : FnOk P w K mg base CX0 (k + 2) fO fdO ["n"] spOddPart)
    (FU : Fun K "unit" "unit" sUnit fU fdU) (bU : Binds K fdU ["row"] []) (gU : mg "unit" = some (.ref fU)) (GU : FnOk P w K mg base CX0 (k + 2) fU fdU ["row"] spUnit) : FnOk P w K mg base CX0 (k + 3) f fd ["row"] spMeasure := by
  refine F.ok scMeasure (fun vs H Q E h => ?_) (fun cdv A outer s H vs Q E hr h => ?_)
  · obtain ⟨a, ns, rfl, _⟩ := h
    rfl
  · obtain ⟨a, ns, rfl, r, q⟩ := h
    refine ⟨_, pss_one (ps_ret (pe_call GO hr (by rfl) gO FO.kp bO .nil pass0 (pa_cons (pe_call GU hr (by rfl) gU FU.kp bU .nil pass0 (pa_cons (pv 0) pa_nil)) pa_nil))), ?_⟩
    have := r.pos
    refine ⟨_, rfl, a, ns, rfl, r, _, rfl, by omega, ?_⟩
    rw [Int.toNat_natCast]
    exact q
theorem ok_twos {f fT fU : Addr} {fd fdT fdU : FuncData} {k : Nat} (F : Fun K "twos" "twos" sTwos f fd) (FT : Fun K "twos_in" "twos_in" sTwosIn fT fdT) (bT : Binds K fdT ["n"] []) (gT : mg "twos_in" = some (.ref fT)) (GT : FnOk P w K mg base CX0 (k + 1) fT fdT ["n"] spTwosIn)
    (FU : Fun K "unit" "unit" sUnit fU fdU) (bU : Binds K fdU ["row"] []) (gU : mg "unit" = some (.ref fU)) (GU : FnOk P w K mg base CX0 (k + 2) fU fdU ["row"] spUnit) : FnOk P w K mg base CX0 (k + 3) f fd ["row"] spTwos := by
  refine F.ok scTwos (fun vs H Q E h => ?_) (fun cdv A outer s H vs Q E hr h => ?_)
  · obtain ⟨a, ns, rfl, _⟩ := h
    rfl
  · obtain ⟨a, ns, rfl, r, q⟩ := h
    refine ⟨_, pss_one (ps_ret (pe_call GT (hr.mono (by omega)) (by rfl) gT FT.kp bT .nil pass0 (pa_cons (pe_call GU hr (by rfl) gU FU.kp bU .nil pass0 (pa_cons (pv 0) pa_nil)) pa_nil))), ?_⟩
    have := r.pos
    refine ⟨_, rfl, a, ns, rfl, r, _, rfl, by omega, ?_⟩
    rw [Int.toNat_natCast]
    exact q
def spOddOnes : Sp := fun vs H Q _ => ∃ a ns, vs = [.ref a] ∧ Row H a ns ∧ ∀ H', Same H H' → Q (.int ((fewT (v2 (gl ns)) ns).length : Nat)) H'
theorem fewT_succ (t : Nat) (ns : List Int) (i : Nat) (h : i < ns.length) : fewT t (ns.take (i + 1)) = fewT t (ns.take i) ++ (if (decide (ns[i] > 0) && decide (v2 ns[i].toNat ≤ t)) = true then [ns[i]] else []) := by
  unfold fewT
  rw [List.take_add_one, List.getElem?_eq_getElem h, List.filter_append]
  congr 1
  show List.filter _ [ns[i]] = _
  rw [List.filter_cons, List.filter_nil]
theorem ok_oddOnes {f fT fS : Addr} {fd fdT fdS : FuncData} {k : Nat} (F : Fun K "odd_ones" "odd_ones" sOddOnes f fd) (FT : Fun K "twos_in" "twos_in" sTwosIn fT fdT) (bT : Binds K fdT ["n"] []) (gT : mg "twos_in" = some (.ref fT)) (GT : FnOk P w K mg base CX0 (k + 1) fT fdT ["n"] spTwosIn)
    (FS : Fun K "twos" "twos" sTwos fS fdS) (bS : Binds K fdS ["row"] []) (gS : mg "twos" = some (.ref fS)) (GS : FnOk P w K mg base CX0 (k + 3) fS fdS ["row"] spTwos) (ml : mg "len" = none) : FnOk P w K mg base CX0 (k + 4) f fd ["row"] spOddOnes := by
  refine F.ok scOddOnes (fun vs H Q E h => ?_) (fun cdv A outer s H vs Q E hr h => ?_)
  · obtain ⟨a, ns, rfl, _⟩ := h
    rfl
  · obtain ⟨a, ns, rfl, r, q⟩ := h
    have hr1 := hr.mono (show k + 1 ≤ k + 3 by omega)
    refine ⟨_, pss_cons (ps_set (i := 1) scOddOnes.nd rfl (.inr rfl) (pe_call GS hr (by rfl) gS FS.kp bS .nil pass0 (pa_cons (pv 0) pa_nil)))
      (pss_one (ps_ret (pe_callB call_len_seq (by rfl) ml PySem.boot_len (pa_cons
        (pe_lc (own := [("amount", 2)]) (g := gName 2) rfl scOddOnes.nd (pi_tup (pv 0)) (blkOk_by (N := ["row", "fewest_twos", "amount"]) (sc := defScope sOddOnes) (by decide +kernel))
          (fun _ _ _ _ _ => pg_name (i := 2) scOddOnes.nd rfl (Or.inl rfl))
          (fun _ _ _ _ _ => pts_one (PW.pt (pw_and (pt_cmpR op_gt (pv 2) pe_int (nomark _)) (pw_and1 (pt_cmpR op_le (pe_call GT hr1 (by rfl) gT FT.kp bT .nil pass0 (pa_cons (pv 2) pa_nil)) (pv 1) (nomark _))))))
          (fun _ _ _ _ _ => pv 2)) pa_nil)))), ?_⟩
    refine ⟨_, rfl, a, ns, rfl, r, ?_⟩
    refine ⟨.ref a, rfl, a, rfl, ⟨_, SqT.of r.1⟩, fun D nD => ?_⟩
    refine lc_tup (K := K) (a := a) (xs := ns.map V.int) (fun i H' => Same H H' ∧ H' D = some (.lst ((fewT (v2 (gl ns)) (ns.take i)).map V.int))) ⟨same_upd nD, upd_same⟩ ?_ ?_ ?_
    · rintro i H' _ ⟨sm, _⟩
      exact SqT.of (sm _ _ r.1)
    · rintro i x H' hx ⟨sm, hD⟩
      rw [List.getElem?_map] at hx
      obtain ⟨n, hn, rfl⟩ := Option.map_eq_some_iff.mp hx
      obtain ⟨hi, hn'⟩ := List.getElem?_eq_some_iff.mp hn
      have small : ((fewT (v2 (gl ns)) (ns.take i)).map V.int).length < sizeLine := by
        rw [List.length_map]
        refine small1000 (Nat.le_trans (List.length_filter_le _ _) ?_)
        rw [List.length_take]
        have := r.2.2.1
        omega
      refine ⟨rfl, _, rfl, n, 0, rfl, rfl, _, rfl, ite2 (fun h1 => ?_) (fun h1 => ?_)⟩
      · have h1' : 0 < n := of_decide_eq_true h1
        refine ⟨_, rfl, n, rfl, h1', _, rfl, _, _, rfl, rfl, _, rfl, ite2 (fun h2 => ?_) (fun h2 => ?_)⟩
        · have h2' : v2 n.toNat ≤ v2 (gl ns) := by have := of_decide_eq_true h2; omega
          refine ⟨_, rfl, _, hD, small, ?_, ?_⟩
          · intro c o hc
            rw [upd_ne (ne_of_none hc nD)]
            exact sm c o hc
          · rw [upd_same, fewT_succ _ _ _ hi, hn', decide_eq_true h1', decide_eq_true h2', List.map_append]
            rfl
        · have h2' : ¬ v2 n.toNat ≤ v2 (gl ns) := fun z => h2 (decide_eq_true (by omega))
          refine ⟨sm, ?_⟩
          rw [fewT_succ _ _ _ hi, hn', decide_eq_false h2', Bool.and_false, if_neg Bool.false_ne_true, List.append_nil]
          exact hD
      · have h1' : ¬ n > 0 := fun z => h1 (decide_eq_true z)
        refine iteF ⟨sm, ?_⟩
        rw [fewT_succ _ _ _ hi, hn', decide_eq_false h1', Bool.false_and, if_neg Bool.false_ne_true, List.append_nil]
        exact hD
    · rintro H' ⟨sm, hD⟩
      rw [List.length_map, List.take_length] at hD
      refine ⟨D, _, rfl, .inl (SqL.of hD), ?_⟩
      rw [List.length_map]
      exact q H' sm
end
end K70

namespace K70
open PySem PySem.Spec PyProof.Rows L2 MG
abbrev sPlaces : Stmt := topS 27
theorem scPlaces : FnScope ["_law_box_here", "_law_amounts", "_law_nothing", "_law_left", "_law_found"] ["_law_box_here", "_law_amounts", "_law_nothing"] (defScope sPlaces) := ⟨rfl, rfl, rfl, by decide +kernel, rfl, by decide +kernel, by decide +kernel⟩
theorem Box.get {H : Hp} {b : Addr} {n : Nat} (h : Box H b n) : ∃ o, H b = Option.some o := by
  obtain ⟨_, _, _, z, _⟩ := h
  exact ⟨_, z⟩
/-- a change of what is new -/
theorem SX.set {b p : Addr} {H H' : Hp} {o : HO} (x : SX b H H') (hp : H p = none) : SX b H (upd H' p o) := fun a u na e => by
  rw [upd_ne (ne_of_none e hp)]
  exact x a u na e
theorem Box.set {H : Hp} {b p : Addr} {n : Nat} {o : HO} (h : Box H b n) (hp : b ≠ p) : Box (upd H p o) b n := h.at (upd_ne hp)
theorem erase_perm {α : Type} : ∀ (l : List α) (j : Nat) (h : j < l.length), (l[j] :: l.eraseIdx j).Perm l
  | x :: r, 0, _ => List.Perm.refl _
  | x :: r, j + 1, h => by
    have h' : j < r.length := by rw [List.length_cons] at h; omega
    show (r[j] :: x :: r.eraseIdx j).Perm (x :: r)
    exact (List.Perm.swap x r[j] _).trans ((erase_perm r j h').cons x)
theorem map_erase {α β : Type} (f : α → β) : ∀ (l : List α) (j : Nat), (l.map f).eraseIdx j = (l.eraseIdx j).map f
  | [], _ => rfl
  | x :: r, 0 => rfl
  | x :: r, j + 1 => by
    show f x :: (r.map f).eraseIdx j = f x :: (r.eraseIdx j).map f
    rw [map_erase f r j]
theorem dpInts {K : PySem.W.Frag} {H : Hp} : ∀ L : List Int, DpAll K H (L.map V.int) (L.map PyData.int)
  | [] => .nil
  | i :: L => .cons (.int i) (dpInts L)
theorem lay_ints : ∀ L : List Int, PyData.canLayAll0 (L.map PyData.int) = true
  | [] => rfl
  | i :: L => by
    rw [List.map_cons, PyData.canLayAll0, lay_ints L]
    rfl
theorem depth_ints : ∀ L : List Int, PyData.depthAll (L.map PyData.int) = 0
  | [] => rfl
  | i :: L => by
    rw [List.map_cons, PyData.depthAll, depth_ints L]
    rfl
theorem shaped_ints (L : List Int) : SeqAt.shaped (.list (L.map PyData.int)) = true := by
  unfold SeqAt.shaped
  rw [PyData.canLay0, lay_ints, PyData.depth, depth_ints]
  rfl
section
variable {P : Program} {w : World} {K : PySem.W.Frag} {mg : Str → Option Value} {base : Heap}
def spPlaces : Sp := fun vs H Q _ => ∃ (b pa : Addr) (ns : List Int) (k : Int) (n : Nat), vs = [.ref b, .ref pa, .int k] ∧ Box H b n ∧ n ≤ 900000 ∧ (H pa = some (.lst (ns.map V.int)) ∨ H pa = some (.tup (ns.map V.int))) ∧ 0 ≤ k ∧ k ≤ 10 ∧ ns.length ≤ 30 ∧
  ∀ p H' (ms : List Int), H p = none → ms.Perm (ns ++ List.replicate k.toNat 0) → Box H' b (n + 45) → SX b H H' → H' p = some (.tup (ms.map V.int)) → Q (.ref p) H'
theorem ok_places {f fT : Addr} {fd fdT : FuncData} {k : Nat} (F : Fun K "_law_places" "_law_places" sPlaces f fd)
    (FT : Fun K "_law_take" "_law_take" sTake fT fdT) (bT : Binds K fdT ["_law_box_here", "_law_many"] []) (gT : mg "_law_take" = some (.ref fT)) (ml : mg "len" = none) (mL : mg "list" = none) (mT : mg "tuple" = none) :
    FnOk P w K mg base CX0 (k + 2) f fd ["_law_box_here", "_law_amounts", "_law_nothing"] spPlaces := by
  have GT : FnOk P w K mg base CX0 (k + 1) fT fdT ["_law_box_here", "_law_many"] spTake := ok_take FT
  refine F.ok scPlaces (fun vs H Q E h => ?_) (fun cdv A outer s H vs Q E hr h => ?_)
  · obtain ⟨b, pa, ns, k, n, rfl, _⟩ := h
    rfl
  · obtain ⟨b, pa, ns, kk, n, rfl, hB, hn, epa, k0, k1, hl, q⟩ := h
    refine ⟨_, pss_cons (ps_par (i := 3) (j := 4) rfl scPlaces.nd rfl rfl (by decide) rfl rfl (pa_cons (pe_op op_cat (pe_callTy call_list_of (by rfl) mL (by decide +kernel) (pa_cons (pv 1) pa_nil)) (pe_op op_rep (pe_lst (pa_cons pe_int pa_nil)) (pv 2))) (pa_cons (pe_lst pa_nil) pa_nil)) (by rfl))
      (pss_cons (ps_while PassesOwn.never (pt_cmpR (op_neD hr.units) (pv 3) (pe_lst pa_nil) (nomark _))
        (pss_one (ps_expr (pe_bm PySem.F.plainAttrs_list PySem.F.slot_list_append PySem.F.type_list_append mt_append (pv 4) (pa_cons
          (pe_bm PySem.F.plainAttrs_list PySem.F.slot_list_pop PySem.F.type_list_pop mt_popAt (pv 3) (pa_cons (pe_call GT hr (by rfl) gT FT.kp bT .nil pass0 (pa_cons (pv 0) (pa_cons (pe_callB call_len_seq (by rfl) ml PySem.boot_len (pa_cons (pv 3) pa_nil)) pa_nil))) pa_nil)) pa_nil)))))
      (pss_one (ps_ret (pe_callTy call_tuple_of (by rfl) mT (by decide +kernel) (pa_cons (pv 4) pa_nil))))), ?_⟩
    obtain ⟨bo, bz⟩ := hB.get
    refine ⟨_, rfl, pa, ns.map V.int, rfl, epa.elim (fun e => .inl (SqL.of e)) (fun e => .inr (SqT.of e)), fun l1 n1 => ?_⟩
    have s1 : Same H (upd H l1 (.lst (ns.map V.int))) := same_upd n1
    have g1 : upd H l1 (.lst (ns.map V.int)) l1 = some (.lst (ns.map V.int)) := upd_same
    generalize upd H l1 (HO.lst (ns.map V.int)) = H1 at s1 g1 ⊢
    refine ⟨by show 1 ≤ sizeLine; decide, fun l2 n2 => ?_⟩
    have s2 : Same H1 (upd H1 l2 (.lst [.int 0])) := same_upd n2
    refine ⟨_, rfl, l2, kk, [.int 0], rfl, rfl, upd_same, by omega, by omega, by show 1 * kk.toNat ≤ sizeLine; rw [sizeLine_eq]; omega, fun l3 n3 => ?_⟩
    have er : (List.replicate kk.toNat [V.int 0]).flatten = (List.replicate kk.toNat (0 : Int)).map V.int := by
      induction kk.toNat with
      | zero => rfl
      | succ m ih => rw [List.replicate_succ, List.flatten_cons, ih, List.replicate_succ]; rfl
    rw [er]
    have s3 : Same (upd H1 l2 (.lst [.int 0])) (upd (upd H1 l2 (.lst [.int 0])) l3 (.lst ((List.replicate kk.toNat (0 : Int)).map V.int))) := same_upd n3
    have g3 : upd (upd H1 l2 (.lst [.int 0])) l3 (.lst ((List.replicate kk.toNat (0 : Int)).map V.int)) l3 = some (.lst ((List.replicate kk.toNat (0 : Int)).map V.int)) := upd_same
    have S3 := s1.trans (s2.trans s3)
    have g13 := s3 _ _ (s2 _ _ g1)
    generalize upd (upd H1 l2 (.lst [.int 0])) l3 (.lst ((List.replicate kk.toNat (0 : Int)).map V.int)) = H3 at s3 g3 S3 g13 ⊢
    refine ⟨l1, l3, _, _, rfl, rfl, g13, g3, by rw [List.length_map, List.length_map, List.length_replicate, sizeLine_eq]; omega, fun l nl => ?_⟩
    rw [← List.map_append]
    have s4 : Same H3 (upd H3 l (.lst ((ns ++ List.replicate kk.toNat 0).map V.int))) := same_upd nl
    have g4 : upd H3 l (.lst ((ns ++ List.replicate kk.toNat 0).map V.int)) l = some (.lst ((ns ++ List.replicate kk.toNat 0).map V.int)) := upd_same
    have fl : H l = none := S3.free nl
    generalize upd H3 l (.lst ((ns ++ List.replicate kk.toNat 0).map V.int)) = H4 at s4 g4 ⊢
    have S4 := S3.trans s4
    refine ⟨by show 0 ≤ sizeLine; decide, fun fo nfo => ⟨_, _, rfl, ?_⟩⟩
    have ffo : H fo = none := S4.free nfo
    have nlf : l ≠ fo := ne_of_none g4 nfo
    have nbl : b ≠ l := ne_of_none bz fl
    have nbf : b ≠ fo := ne_of_none bz ffo
    have hB5 : Box (upd H4 fo (.lst [])) b n := by
      have := s4.trans (same_upd nfo (o := .lst []))
      have e5 := (S3.trans this) _ _ bz
      exact hB.at (by rw [e5, bz])
    have tot : (ns ++ List.replicate kk.toNat 0).length ≤ 40 := by rw [List.length_append, List.length_replicate]; omega
    generalize hall : ns ++ List.replicate kk.toNat 0 = all at g4 tot q
    refine while_by (fun σ H' => ∃ ls ms : List Int, σ = [some (.ref b), some (.ref pa), some (.int kk), some (.ref l), some (.ref fo)] ∧ (ls ++ ms).Perm all ∧ SX b H H' ∧ Box H' b (n + ms.length) ∧ H' l = some (.lst (ls.map V.int)) ∧ H' fo = some (.lst (ms.map V.int)))
      (fun _ H' => match H' l with | some (.lst xs) => xs.length | _ => 0) ⟨all, [], rfl, by rw [List.append_nil], (SX.of_same S4).new nfo, hB5, by rw [upd_ne nlf]; exact g4, upd_same⟩ ?_ ?_
    · rintro σ H' ⟨ls, ms, rfl, pm, x', hB', el, ef⟩
      have hlen := pm.length_eq
      rw [List.length_append] at hlen
      refine ⟨.ref l, rfl, by show 0 ≤ sizeLine; decide, fun e ne => ?_⟩
      have se : Same H' (upd H' e (.lst [])) := same_upd ne
      have ge : upd H' e (.lst []) e = some (.lst []) := upd_same
      have xe : SX b H (upd H' e (.lst [])) := x'.new ne
      have hBe : Box (upd H' e (.lst [])) b (n + ms.length) := hB'.new ne
      generalize upd H' e (HO.lst []) = G at se ge xe hBe ⊢
      have elG := se _ _ el
      have efG := se _ _ ef
      refine ⟨.list (ls.map PyData.int), .list [], .lst (SqL.of elG) (dpInts ls), .lst (SqL.of ge) .nil, shaped_ints ls, rfl, _, rfl, ?_⟩
      cases ls with
      | nil =>
        refine iteF ?_
        refine ⟨.ref fo, rfl, fo, _, rfl, .inl ⟨SqL.of efG, fun p np => ?_⟩⟩
        refine q p _ ms (xe.free hBe np) pm ((hBe.new np).le ?_) (xe.new np) upd_same
        have : ms.length ≤ 40 := by
          rw [List.length_nil] at hlen
          omega
        omega
      | cons i0 lr =>
        refine iteT ?_
        refine ⟨.ref fo, rfl, .inl ⟨rfl, _, SqL.of efG⟩, .ref l, rfl, .inl ⟨rfl, _, SqL.of elG⟩, .ref b, rfl, .ref l, rfl, l, _, rfl, .inl (SqL.of elG), ?_⟩
        rw [List.length_map]
        refine ⟨b, (((i0 :: lr).length : Nat) : Int), n + ms.length, rfl, hBe, by omega, by rw [List.length_cons]; omega, by omega, fun r H2 r0 r1 hB2 k2 => ?_⟩
        obtain ⟨j, rfl⟩ : ∃ j : Nat, r = (j : Int) := ⟨r.toNat, by omega⟩
        have hj : j < (i0 :: lr).length := by omega
        have el2 : H2 l = some (.lst ((i0 :: lr).map V.int)) := by rw [k2 l nbl.symm]; exact elG
        have ef2 : H2 fo = some (.lst (ms.map V.int)) := by rw [k2 fo nbf.symm]; exact efG
        have x2 : SX b H H2 := xe.trans (.of_eq k2)
        have hix : seqIndex? (j : Int) ((i0 :: lr).map V.int).length = some j := by
          unfold seqIndex?
          rw [List.length_map, if_neg (show ¬ (j : Int) < 0 by omega)]
          show (if (decide (0 ≤ (j : Int)) && decide ((j : Int) < ((i0 :: lr).length : Nat))) = true then some (j : Int).toNat else none) = some j
          rw [decide_eq_true (show 0 ≤ (j : Int) by omega), decide_eq_true (show (j : Int) < ((i0 :: lr).length : Nat) by omega)]
          rfl
        refine ⟨l, _, (j : Int), j, .int (i0 :: lr)[j], rfl, rfl, el2, by omega, by omega, hix, by rw [List.getElem?_map, List.getElem?_eq_getElem hj]; rfl, ?_⟩
        refine ⟨fo, _, _, rfl, rfl, by rw [upd_ne nlf.symm]; exact ef2, by rw [List.length_map]; exact small1000 (by omega), ?_⟩
        refine ⟨⟨(i0 :: lr).eraseIdx j, ms ++ [(i0 :: lr)[j]], rfl, ?_, (x2.set fl).set ffo, ?_, ?_, ?_⟩, ?_⟩
        · refine List.Perm.trans ?_ pm
          have h1 : ((i0 :: lr)[j] :: (i0 :: lr).eraseIdx j).Perm (i0 :: lr) := erase_perm _ j hj
          have h2 : ((i0 :: lr).eraseIdx j ++ (ms ++ [(i0 :: lr)[j]])).Perm ((i0 :: lr)[j] :: ((i0 :: lr).eraseIdx j ++ ms)) := by
            rw [← List.append_assoc]
            exact List.perm_append_comm
          refine h2.trans ?_
          rw [← List.cons_append]
          exact h1.append_right ms
        · rw [List.length_append]
          exact ((hB2.set nbl).set nbf)
        · rw [upd_ne nlf, upd_same, map_erase]
        · rw [upd_same, List.map_append]; rfl
        · show (match upd (upd H2 l _) fo _ l with | some (.lst xs) => xs.length | _ => 0) < (match H' l with | some (.lst xs) => xs.length | _ => 0)
          rw [upd_ne nlf, upd_same, el]
          show (((i0 :: lr).map V.int).eraseIdx j).length < ((i0 :: lr).map V.int).length
          rw [List.length_eraseIdx_of_lt (by rw [List.length_map]; exact hj), List.length_map, List.length_cons]
          omega
    · rintro σ H' Q1 Q2 hq ⟨x, e1, hz, h⟩
      refine ⟨x, e1, hz, fun p np => ?_⟩
      obtain ⟨d, e, a1, a2, a3, a4, z, a5, a6⟩ := h p np
      exact ⟨d, e, a1, a2, a3, a4, z, a5, hq _ _ a6⟩
end
end K70

/-! MG: clauses, zip of tuples in comprehensions, == of rows and of texts -/
namespace MG
open PySem PySem.Spec PyProof.Rows L2
theorem walk_zipT {K : PySem.W.Frag} {a b : Addr} {xs ys : List V} {n : Nat} (hn : n = min xs.length ys.length) :
    Walk (RZ.ItzT K a b) n (fun H => SqT K H a xs ∧ SqT K H b ys) (YPair (fun i => xs[i]?) (fun i => ys[i]?)) := by
  subst hn
  refine ⟨fun i _ hi q => ?_, fun _ q => ⟨xs, ys, q.1, q.2, by omega⟩, fun i H v H' _ q y => ?_⟩
  · have h1 : i < xs.length := by omega
    have h2 : i < ys.length := by omega
    exact ⟨xs, ys, xs[i], ys[i], q.1, q.2, by simp [h1], by simp [h2]⟩
  · obtain ⟨T, x, z, h1, h2, h3, h4, h5⟩ := y
    exact ⟨T, x, z, h1, h2, h3, h4 xs q.1, h5 ys q.2⟩
theorem eqvAll_ints : ∀ a b : List Int, PyData.eqvAll (a.map PyData.int) (b.map PyData.int) = decide (a = b)
  | [], [] => rfl
  | [], _ :: _ => rfl
  | _ :: _, [] => rfl
  | x :: a, y :: b => by
    rw [List.map_cons, List.map_cons, PyData.eqvAll, eqvAll_ints a b]
    show ((x == y) && _) = _
    by_cases h : x = y
    · subst h
      rw [show (x == x) = true from beq_self_eq_true x, Bool.true_and]
      by_cases h2 : a = b
      · rw [h2]; simp
      · rw [decide_eq_false h2, decide_eq_false (fun z => h2 (List.cons.inj z).2)]
    · rw [show (x == y) = false from beq_eq_false_iff_ne.mpr h, decide_eq_false (fun z => h (List.cons.inj z).1)]; rfl
theorem eqv_rows (a b : List Int) : PyData.eqv (.tuple (a.map PyData.int)) (.tuple (b.map PyData.int)) = decide (a = b) := by
  rw [PyData.eqv, eqvAll_ints]
theorem eqvAll_strs : ∀ a b : List Str, PyData.eqvAll (a.map PyData.str) (b.map PyData.str) = decide (a = b)
  | [], [] => rfl
  | [], _ :: _ => rfl
  | _ :: _, [] => rfl
  | x :: a, y :: b => by
    rw [List.map_cons, List.map_cons, PyData.eqvAll, eqvAll_strs a b]
    show ((x == y) && _) = _
    by_cases h : x = y
    · subst h
      rw [show (x == x) = true from beq_self_eq_true x, Bool.true_and]
      by_cases h2 : a = b
      · rw [h2]; simp
      · rw [decide_eq_false h2, decide_eq_false (fun z => h2 (List.cons.inj z).2)]
    · rw [show (x == y) = false from beq_eq_false_iff_ne.mpr h, decide_eq_false (fun z => h (List.cons.inj z).1)]; rfl
theorem eqv_strs (a b : List Str) : PyData.eqv (.tuple (a.map PyData.str)) (.tuple (b.map PyData.str)) = decide (a = b) := by
  rw [PyData.eqv, eqvAll_strs]
theorem dpIntsG {K : PySem.W.Frag} {H : Hp} : ∀ L : List Int, DpAll K H (L.map V.int) (L.map PyData.int)
  | [] => .nil
  | i :: L => .cons (.int i) (dpIntsG L)
theorem dpStrsG {K : PySem.W.Frag} {H : Hp} : ∀ L : List Str, DpAll K H (L.map V.str) (L.map PyData.str)
  | [] => .nil
  | i :: L => .cons (.str i) (dpStrsG L)
theorem lay_intsG : ∀ L : List Int, PyData.canLayAll0 (L.map PyData.int) = true
  | [] => rfl
  | i :: L => by rw [List.map_cons, PyData.canLayAll0, lay_intsG L]; rfl
theorem lay_strsG : ∀ L : List Str, (∀ x ∈ L, PyData.canLay0 (.str x) = true) → PyData.canLayAll0 (L.map PyData.str) = true
  | [], _ => rfl
  | i :: L, h => by rw [List.map_cons, PyData.canLayAll0, lay_strsG L fun x hx => h x (List.mem_cons_of_mem _ hx), h i List.mem_cons_self]; rfl
theorem depth_intsG : ∀ L : List Int, PyData.depthAll (L.map PyData.int) = 0
  | [] => rfl
  | i :: L => by rw [List.map_cons, PyData.depthAll, depth_intsG L]; rfl
theorem depth_strsG : ∀ L : List Str, PyData.depthAll (L.map PyData.str) = 0
  | [] => rfl
  | i :: L => by rw [List.map_cons, PyData.depthAll, depth_strsG L]; rfl
theorem shapedT_ints (L : List Int) : SeqAt.shaped (.tuple (L.map PyData.int)) = true := by
  unfold SeqAt.shaped
  rw [PyData.canLay0, lay_intsG, PyData.depth, depth_intsG]
  rfl
theorem shapedT_strs (L : List Str) (h : ∀ x ∈ L, PyData.canLay0 (.str x) = true) : SeqAt.shaped (.tuple (L.map PyData.str)) = true := by
  unfold SeqAt.shaped
  rw [PyData.canLay0, lay_strsG L h, PyData.depth, depth_strsG]
  rfl
/-! ### those who have something -/
def hold (ns : List Int) (i : Nat) : List Int := ((List.range i).filter fun j => decide (0 < ns.getD j 0)).map fun (j : Nat) => (j : Int)
theorem hold_succ (ns : List Int) (i : Nat) : hold ns (i + 1) = hold ns i ++ (if 0 < ns.getD i 0 then [(i : Int)] else []) := by
  unfold hold
  rw [List.range_succ, List.filter_append, List.map_append]
  congr 1
  by_cases h : 0 < ns.getD i 0
  · rw [if_pos h, List.filter_cons_of_pos (by simpa using h)]; rfl
  · rw [if_neg h, List.filter_cons_of_neg (by simpa using h)]; rfl
theorem hold_len (ns : List Int) (i : Nat) : (hold ns i).length ≤ i := by
  unfold hold
  rw [List.length_map]
  exact Nat.le_trans (List.length_filter_le _ _) (by rw [List.length_range]; exact Nat.le_refl _)
theorem hold_count (ns : List Int) : ∀ i, i ≤ ns.length → (hold ns i).length = ((ns.take i).filter fun n => decide (0 < n)).length
  | 0, _ => by rw [List.take_zero]; rfl
  | i + 1, h => by
    have hi : i < ns.length := h
    rw [hold_succ, List.length_append, hold_count ns i (by omega), List.take_add_one, List.getElem?_eq_getElem hi, List.filter_append, List.length_append]
    congr 1
    have e : ns.getD i 0 = ns[i] := by rw [List.getD_eq_getElem?_getD, List.getElem?_eq_getElem hi]; rfl
    rw [e]
    show _ = (List.filter _ [ns[i]]).length
    by_cases z : 0 < ns[i]
    · rw [if_pos z, List.filter_cons_of_pos (by simpa using z)]; rfl
    · rw [if_neg z, List.filter_cons_of_neg (by simpa using z)]; rfl
theorem hold_all (ns : List Int) : (hold ns ns.length).length = (ns.filter fun n => decide (0 < n)).length := by
  rw [hold_count ns _ (Nat.le_refl _), List.take_length]
/-! ### the clauses -/
def hfn (r o : List Int) : Bool := (r.zip o).any fun p => decide (p.1 = 0) && decide (p.2 > 0)
def ms (r : List Int) : Int := (gl r : Nat) / 2 ^ v2 (gl r)
def od (r : List Int) : Nat := (fewT (v2 (gl r)) r).length
def asked (r o : List Int) : List (Str × Bool) :=
  [("sum", decide (o.sum ≠ r.sum)), ("nothing", hfn r o), ("measure", decide (ms o ≠ ms r)), ("twos", decide (v2 (gl o) < v2 (gl r))),
   ("odd ones", decide (v2 (gl o) = v2 (gl r)) && decide (od r < od o)), ("doubled", decide (v2 (gl o) = v2 (gl r)) && decide (od o = (hold o o.length).length))]
def clausesOf (r o : List Int) : List Str := ((asked r o).filter fun p => p.2).map fun p => p.1
def brkT (r o : List Int) : List Str := if r = o then [] else if r.length ≠ o.length then ["places"] else clausesOf r o
def PairsAt (H : Hp) (ts : List Addr) (cs : List (Str × Bool)) : Prop := ts.length = cs.length ∧ ∀ (i : Nat) (t : Addr) (c : Str × Bool), ts[i]? = some t → cs[i]? = some c → H t = some (.tup [.str c.1, .bl c.2])
theorem PairsAt.nil {H : Hp} : PairsAt H [] [] := ⟨rfl, fun i t c h => by cases h⟩
theorem PairsAt.cons {H : Hp} {t : Addr} {c : Str × Bool} {ts : List Addr} {cs : List (Str × Bool)} (e : H t = some (.tup [.str c.1, .bl c.2])) (h : PairsAt H ts cs) : PairsAt H (t :: ts) (c :: cs) := by
  refine ⟨by rw [List.length_cons, List.length_cons, h.1], fun i t' c' h1 h2 => ?_⟩
  cases i with
  | zero => cases h1; cases h2; exact e
  | succ i => exact h.2 i t' c' h1 h2
end MG

/-! MG: comprehensions of two clauses over tuples; deeds -/
namespace MG
open PySem PySem.Spec PyProof.Rows L2
/-! ### a deed -/
def deed (r : List Int) (i j : Nat) : List Int := (r.set i (r.getD i 0 - r.getD j 0)).set j (2 * r.getD j 0)
structure MayG (r : List Int) (i j : Nat) : Prop where
  hi : i < r.length
  hj : j < r.length
  ne : i ≠ j
  pj : 0 < r.getD j 0
  ge : r.getD j 0 ≤ r.getD i 0
theorem getD_eq {r : List Int} {i : Nat} (h : i < r.length) : r.getD i 0 = r[i] := by
  rw [List.getD_eq_getElem?_getD, List.getElem?_eq_getElem h]; rfl
theorem sum_setG : ∀ (l : List Int) (j : Nat) (h : j < l.length) (v : Int), (l.set j v).sum = l.sum - l[j] + v
  | x :: r, 0, _, v => by
    rw [List.set_cons_zero, List.sum_cons, List.sum_cons]
    show v + r.sum = x + r.sum - x + v
    omega
  | x :: r, j + 1, h, v => by
    have h' : j < r.length := by rw [List.length_cons] at h; omega
    rw [List.set_cons_succ, List.sum_cons, List.sum_cons, sum_setG r j h' v]
    show _ = x + r.sum - r[j] + v
    omega
theorem deed_len (r : List Int) (i j : Nat) : (deed r i j).length = r.length := by
  unfold deed
  rw [List.length_set, List.length_set]
/-- what is added up over a row, place by place -/
theorem sum_deed {r : List Int} {i j : Nat} (h : MayG r i j) (f : Int → Int) : ((deed r i j).map f).sum = (r.map f).sum - f r[i]! - f r[j]! + f (r[i]! - r[j]!) + f (2 * r[j]!) := by
  have hi := h.hi
  have hj := h.hj
  have ei : r[i]! = r[i] := by rw [List.getElem!_eq_getElem?_getD, List.getElem?_eq_getElem hi]; rfl
  have ej : r[j]! = r[j] := by rw [List.getElem!_eq_getElem?_getD, List.getElem?_eq_getElem hj]; rfl
  unfold deed
  rw [getD_eq hi, getD_eq hj, ei, ej, List.map_set, List.map_set]
  rw [sum_setG _ j (by rw [List.length_set, List.length_map]; exact hj), sum_setG _ i (by rw [List.length_map]; exact hi)]
  rw [List.getElem_set_ne h.ne, List.getElem_map, List.getElem_map]
  omega
theorem deed_sum {r : List Int} {i j : Nat} (h : MayG r i j) : (deed r i j).sum = r.sum := by
  have := sum_deed h id
  rw [List.map_id, List.map_id] at this
  simp only [id] at this
  omega
theorem deed_mem {r : List Int} {i j : Nat} (h : MayG r i j) {n : Int} (hn : n ∈ deed r i j) : n ∈ r ∨ n = r.getD i 0 - r.getD j 0 ∨ n = 2 * r.getD j 0 := by
  unfold deed at hn
  rcases List.mem_or_eq_of_mem_set hn with hn | hn
  · rcases List.mem_or_eq_of_mem_set hn with hn | hn
    · exact .inl hn
    · exact .inr (.inl hn)
  · exact .inr (.inr hn)
theorem deed_get {r : List Int} {i j : Nat} (h : MayG r i j) (p : Nat) : (deed r i j).getD p 0 = if p = j then 2 * r.getD j 0 else if p = i then r.getD i 0 - r.getD j 0 else r.getD p 0 := by
  have hi := h.hi
  have hj := h.hj
  unfold deed
  rw [List.getD_eq_getElem?_getD]
  by_cases e1 : p = j
  · subst e1
    rw [if_pos rfl, List.getElem?_set_self (by rw [List.length_set]; exact hj)]
    rfl
  · rw [if_neg e1, List.getElem?_set_ne (Ne.symm e1)]
    by_cases e2 : p = i
    · subst e2
      rw [if_pos rfl, List.getElem?_set_self hi]
      rfl
    · rw [if_neg e2, List.getElem?_set_ne (Ne.symm e2), ← List.getD_eq_getElem?_getD]
theorem gl_all {l : List Int} {d : Nat} (h : ∀ n ∈ l, d ∣ n.toNat) : d ∣ gl l := by
  induction l with
  | nil => exact Nat.dvd_zero _
  | cons x t ih =>
    rw [gl]
    exact Nat.dvd_gcd (h x List.mem_cons_self) (ih fun n hn => h n (List.mem_cons_of_mem _ hn))
theorem getD_mem {r : List Int} {i : Nat} (h : i < r.length) : r.getD i 0 ∈ r := by
  rw [getD_eq h]; exact List.getElem_mem h
/-- the unit stays, or becomes twice as great -/
theorem deed_unit {r : List Int} {i j : Nat} (h : MayG r i j) (hn : ∀ n ∈ r, 0 ≤ n) : gl (deed r i j) = gl r ∨ gl (deed r i j) = 2 * gl r := by
  have hi := getD_mem h.hi
  have hj := getD_mem h.hj
  have pj := h.pj
  have ge := h.ge
  have g0 : 0 < gl r := gl_pos hj pj
  have up : gl r ∣ gl (deed r i j) := gl_all fun n hm => by
    rcases deed_mem h hm with hm | rfl | rfl
    · exact gl_dvd hm
    · rw [show (r.getD i 0 - r.getD j 0).toNat = (r.getD i 0).toNat - (r.getD j 0).toNat by omega]
      exact Nat.dvd_sub (gl_dvd hi) (gl_dvd hj)
    · rw [Int.toNat_mul (by decide) (by omega)]
      exact Nat.dvd_mul_left_of_dvd (gl_dvd hj) 2
  have m2 : 2 * r.getD j 0 ∈ deed r i j := by
    have := deed_get h j
    rw [if_pos rfl] at this
    rw [← this]
    exact getD_mem (by rw [deed_len]; exact h.hj)
  have m1 : r.getD i 0 - r.getD j 0 ∈ deed r i j := by
    have := deed_get h i
    rw [if_neg h.ne, if_pos rfl] at this
    rw [← this]
    exact getD_mem (by rw [deed_len]; exact h.hi)
  have down : gl (deed r i j) ∣ 2 * gl r := by
    have e : 2 * gl r = gl (r.map fun n => 2 * n) := (gl_mul 2 (by decide) hn).symm
    rw [e]
    refine gl_all fun n hm => ?_
    obtain ⟨x, hx, rfl⟩ := List.mem_map.mp hm
    obtain ⟨p, hp, rfl⟩ := List.getElem_of_mem hx
    have d2 : gl (deed r i j) ∣ 2 * (r.getD j 0).toNat := by
      have := gl_dvd m2
      rw [Int.toNat_mul (by decide) (by omega)] at this
      exact this
    have ex : ∀ x : Int, 0 ≤ x → (2 * x).toNat = 2 * x.toNat := fun x hx => by omega
    by_cases e1 : p = j
    · subst e1
      rw [ex _ (hn _ (List.getElem_mem hp)), ← getD_eq hp]
      exact d2
    · by_cases e2 : p = i
      · subst e2
        rw [ex _ (hn _ (List.getElem_mem hp)), ← getD_eq hp]
        have d1 := gl_dvd m1
        have e3 : 2 * (r.getD p 0).toNat = 2 * (r.getD p 0 - r.getD j 0).toNat + 2 * (r.getD j 0).toNat := by omega
        rw [e3]
        exact Nat.dvd_add (Nat.dvd_mul_left_of_dvd d1 2) d2
      · have := deed_get h p
        rw [if_neg e1, if_neg e2] at this
        have d3 : gl (deed r i j) ∣ (r.getD p 0).toNat := by
          rw [← this]
          exact gl_dvd (getD_mem (by rw [deed_len]; exact hp))
        rw [ex _ (hn _ (List.getElem_mem hp)), ← getD_eq hp]
        exact Nat.dvd_mul_left_of_dvd d3 2
  obtain ⟨c, hc⟩ := up
  rw [hc, Nat.mul_comm 2 (gl r)] at down
  have : c ∣ 2 := Nat.dvd_of_mul_dvd_mul_left g0 down
  have le2 := Nat.le_of_dvd (by decide) this
  rcases (show c = 0 ∨ c = 1 ∨ c = 2 by omega) with h0 | h1 | h2
  · rw [h0] at this
    exact absurd (Nat.eq_zero_of_zero_dvd this) (by decide)
  · left; rw [hc, h1, Nat.mul_one]
  · right; rw [hc, h2, Nat.mul_comm]
/-! ### counts as sums -/
def oddF (t : Nat) (n : Int) : Int := if n % 2 ^ (t + 1) = 0 then 0 else 1
def posF (n : Int) : Int := if 0 < n then 1 else 0
theorem oddF_iff (t : Nat) {n : Int} (h : 0 ≤ n) : (decide (n > 0) && decide (v2 n.toNat ≤ t)) = decide (oddF t n = 1) := by
  unfold oddF
  have e : n % 2 ^ (t + 1) = 0 ↔ 2 ^ (t + 1) ∣ n.toNat := by
    have e1 : n % 2 ^ (t + 1) = ((n.toNat % 2 ^ (t + 1) : Nat) : Int) := by
      rw [Int.natCast_emod, Int.toNat_of_nonneg h, Int.natCast_pow]; rfl
    rw [e1]
    constructor
    · intro z
      exact Nat.dvd_of_mod_eq_zero (by omega)
    · intro z
      rw [Nat.mod_eq_zero_of_dvd z]; rfl
  by_cases h0 : n > 0
  · rw [decide_eq_true h0, Bool.true_and]
    have k := pow_dvd_iff (n := n.toNat) (k := t + 1) (by omega)
    by_cases z : n % 2 ^ (t + 1) = 0
    · rw [if_pos z, decide_eq_false (by have := k.mp (e.mp z); omega)]; rfl
    · rw [if_neg z, decide_eq_true (Nat.le_of_not_lt fun y => z (e.mpr (k.mpr y)))]; rfl
  · have : n = 0 := by omega
    subst this
    rw [decide_eq_false h0, if_pos (Int.zero_emod _)]; rfl
theorem few_sum (t : Nat) : ∀ {l : List Int}, (∀ n ∈ l, 0 ≤ n) → ((fewT t l).length : Int) = (l.map (oddF t)).sum
  | [], _ => rfl
  | x :: l, h => by
    have ih := few_sum t (l := l) fun n hn => h n (List.mem_cons_of_mem _ hn)
    have k := oddF_iff t (h x List.mem_cons_self)
    have v : oddF t x = 0 ∨ oddF t x = 1 := by unfold oddF; split <;> simp
    rw [List.map_cons, List.sum_cons, ← ih]
    unfold fewT at ih ⊢
    rcases v with v | v
    · rw [List.filter_cons_of_neg (by rw [k, v]; decide), v]; omega
    · rw [List.filter_cons_of_pos (by rw [k, v]; decide), v, List.length_cons]; omega
theorem pos_sum : ∀ l : List Int, ((l.filter fun n => decide (0 < n)).length : Int) = (l.map posF).sum
  | [] => rfl
  | x :: l => by
    have ih := pos_sum l
    rw [List.map_cons, List.sum_cons, ← ih]
    unfold posF
    by_cases h : 0 < x
    · rw [List.filter_cons_of_pos (by simpa using h), if_pos h, List.length_cons]; omega
    · rw [List.filter_cons_of_neg (by simpa using h), if_neg h]; omega
theorem sum_le_of {f g : Int → Int} : ∀ {l : List Int}, (∀ n ∈ l, f n ≤ g n) → (l.map f).sum ≤ (l.map g).sum
  | [], _ => Int.le_refl _
  | x :: l, h => by
    have := sum_le_of (f := f) (g := g) (l := l) fun n hn => h n (List.mem_cons_of_mem _ hn)
    have := h x List.mem_cons_self
    rw [List.map_cons, List.map_cons, List.sum_cons, List.sum_cons]; omega
theorem sum_lt_of {f g : Int → Int} : ∀ {l : List Int}, (∀ n ∈ l, f n ≤ g n) → (∃ n ∈ l, f n < g n) → (l.map f).sum < (l.map g).sum
  | [], _, h => by obtain ⟨n, hn, _⟩ := h; cases hn
  | x :: l, h, ⟨n, hn, hlt⟩ => by
    rw [List.map_cons, List.map_cons, List.sum_cons, List.sum_cons]
    have hx := h x List.mem_cons_self
    have hl := sum_le_of (f := f) (g := g) (l := l) fun n hn => h n (List.mem_cons_of_mem _ hn)
    rcases List.mem_cons.mp hn with e | hn
    · subst e; omega
    · have := sum_lt_of (f := f) (g := g) (l := l) (fun n hn => h n (List.mem_cons_of_mem _ hn)) ⟨n, hn, hlt⟩
      omega
/-! ### what one deed or more leave -/
structure Lv (r o : List Int) : Prop where
  len : o.length = r.length
  sum : o.sum = r.sum
  noth : ∀ p, r.getD p 0 = 0 → o.getD p 0 = 0
  ms : MG.ms o = MG.ms r
  tw : v2 (gl r) ≤ v2 (gl o)
  od : v2 (gl o) = v2 (gl r) → MG.od o ≤ MG.od r
  dbl : v2 (gl o) = v2 (gl r) → MG.od o < (hold o o.length).length
  nn : ∀ n ∈ o, 0 ≤ n
theorem hfn_of {r o : List Int} (h : ∀ p, r.getD p 0 = 0 → o.getD p 0 = 0) : hfn r o = false := by
  unfold hfn
  rw [List.any_eq_false]
  rintro ⟨x, y⟩ hm
  obtain ⟨p, hp, e⟩ := List.getElem_of_mem hm
  rw [List.length_zip] at hp
  rw [List.getElem_zip] at e
  have e1 : r[p] = x := congrArg Prod.fst e
  have e2 : o[p] = y := congrArg Prod.snd e
  have := h p
  rw [getD_eq (by omega), getD_eq (by omega), e1, e2] at this
  intro z
  simp only [Bool.and_eq_true, decide_eq_true_eq] at z
  have := this z.1
  omega
theorem Lv.clauses {r o : List Int} (h : Lv r o) : MG.clausesOf r o = [] := by
  unfold MG.clausesOf asked
  rw [hfn_of h.noth, h.sum, h.ms]
  rw [decide_eq_false (show ¬ (r.sum ≠ r.sum) from fun z => z rfl), decide_eq_false (show ¬ (MG.ms r ≠ MG.ms r) from fun z => z rfl), decide_eq_false (show ¬ v2 (gl o) < v2 (gl r) by have := h.tw; omega)]
  by_cases e : v2 (gl o) = v2 (gl r)
  · have h1 := h.od e
    have h2 := h.dbl e
    rw [decide_eq_false (show ¬ MG.od r < MG.od o by omega), decide_eq_false (show ¬ MG.od o = (hold o o.length).length by omega), Bool.and_false]
    rfl
  · rw [decide_eq_false e]
    rfl
theorem ms_of {g g' : Nat} (h0 : 0 < g) (h : g' = g ∨ g' = 2 * g) : ((g' : Int) / 2 ^ v2 g' = (g : Int) / 2 ^ v2 g) ∧ v2 g ≤ v2 g' := by
  rcases h with rfl | rfl
  · exact ⟨rfl, Nat.le_refl _⟩
  · rw [v2_mul2 (by omega)]
    refine ⟨?_, by omega⟩
    have e1 : (((2 * g : Nat) : Int) / 2 ^ (v2 g + 1)) = ((2 * g / 2 ^ (v2 g + 1) : Nat) : Int) := by rw [Int.natCast_ediv, Int.natCast_pow]; rfl
    have e2 : ((g : Int) / 2 ^ v2 g) = ((g / 2 ^ v2 g : Nat) : Int) := by rw [Int.natCast_ediv, Int.natCast_pow]; rfl
    rw [e1, e2, Nat.pow_succ, Nat.mul_comm (2 ^ v2 g) 2, Nat.mul_div_mul_left _ _ (by decide)]
theorem deed_nn {r : List Int} {i j : Nat} (h : MayG r i j) (hn : ∀ n ∈ r, 0 ≤ n) : ∀ n ∈ deed r i j, 0 ≤ n := by
  intro n hm
  have := h.ge
  have := h.pj
  rcases deed_mem h hm with hm | rfl | rfl
  · exact hn n hm
  · omega
  · omega
theorem deed_lv {r : List Int} {i j : Nat} (h : MayG r i j) (hn : ∀ n ∈ r, 0 ≤ n) : Lv r (deed r i j) := by
  have g0 : 0 < gl r := gl_pos (getD_mem h.hj) h.pj
  have hu := deed_unit h hn
  have hnn := deed_nn h hn
  obtain ⟨m1, m2⟩ := ms_of g0 hu
  have m2j : 2 * r.getD j 0 ∈ deed r i j := by
    have := deed_get h j
    rw [if_pos rfl] at this
    rw [← this]
    exact getD_mem (by rw [deed_len]; exact h.hj)
  have hi := h.hi
  have hj := h.hj
  have ei : r[i]! = r.getD i 0 := by rw [List.getElem!_eq_getElem?_getD, List.getD_eq_getElem?_getD]; rfl
  have ej : r[j]! = r.getD j 0 := by rw [List.getElem!_eq_getElem?_getD, List.getD_eq_getElem?_getD]; rfl
  have dv : ∀ n ∈ r, (2 : Int) ^ v2 (gl r) ∣ n := fun n hm => by
    have h1 : 2 ^ v2 (gl r) ∣ n.toNat := Nat.dvd_trans (pow_v2_dvd _) (gl_dvd hm)
    have h2 := Int.natCast_dvd_natCast.mpr h1
    rw [Int.toNat_of_nonneg (hn n hm), Int.natCast_pow] at h2
    exact h2
  have f2 : ∀ t, t = v2 (gl r) → oddF t (2 * r.getD j 0) = 0 := fun t ht => by
    subst ht
    unfold oddF
    refine if_pos (Int.emod_eq_zero_of_dvd ?_)
    rw [Int.pow_succ, Int.mul_comm]
    exact Int.mul_dvd_mul (Int.dvd_refl 2) (dv _ (getD_mem hj))
  refine ⟨deed_len r i j, deed_sum h, fun p hp => ?_, m1, m2, fun e => ?_, fun e => ?_, hnn⟩
  · rw [deed_get h p]
    have := h.pj
    have := h.ge
    by_cases e1 : p = j
    · subst e1; omega
    · rw [if_neg e1]
      by_cases e2 : p = i
      · subst e2; omega
      · rw [if_neg e2]; exact hp
  · have h1 := few_sum (v2 (gl r)) hn
    have h2 := few_sum (v2 (gl (deed r i j))) hnn
    have h3 := sum_deed h (oddF (v2 (gl r)))
    rw [e] at h2
    rw [ei, ej, f2 _ rfl] at h3
    have key : oddF (v2 (gl r)) (r.getD i 0 - r.getD j 0) ≤ oddF (v2 (gl r)) (r.getD i 0) + oddF (v2 (gl r)) (r.getD j 0) := by
      unfold oddF
      by_cases za : r.getD i 0 % 2 ^ (v2 (gl r) + 1) = 0
      · by_cases zb : r.getD j 0 % 2 ^ (v2 (gl r) + 1) = 0
        · rw [if_pos za, if_pos zb, if_pos (by rw [Int.sub_emod, za, zb]; simp)]; decide
        · rw [if_pos za, if_neg zb]; split <;> decide
      · rw [if_neg za]; split <;> split <;> decide
    unfold MG.od
    rw [e]
    omega
  · have h2 := few_sum (v2 (gl (deed r i j))) hnn
    have h4 := pos_sum (deed r i j)
    have lt := sum_lt_of (f := oddF (v2 (gl r))) (g := posF) (l := deed r i j) (fun n hm => by
      have := hnn n hm
      unfold oddF posF
      by_cases z : n = 0
      · subst z; rw [Int.zero_emod]; decide
      · rw [if_pos (show 0 < n by omega)]; split <;> decide) ⟨_, m2j, by
      rw [f2 _ rfl]
      unfold posF
      rw [if_pos (by have := h.pj; omega)]; decide⟩
    rw [hold_all]
    unfold MG.od
    rw [e] at h2 ⊢
    omega
end MG

/-! MG: data of rows, of places and of deeds; lists of pairs in the heap -/
namespace MG
open PySem PySem.Spec PyProof.Rows L2
def wholeD : PyData → Bool
  | .int _ => true
  | _ => false
def hasD (ns : List Int) : PyData → Bool
  | .int p => decide (0 ≤ p) && (decide (p < ns.length) && decide (0 < ns.getD p.toNat 0))
  | _ => false
def twoD (ns : List Int) : PyData → PyData → Bool
  | .int p, .int q => hasD ns (.int p) && (hasD ns (.int q) && decide (p ≠ q))
  | _, _ => false
def giveD (ns : List Int) : PyData → PyData → Bool
  | .int p, .int q => twoD ns (.int p) (.int q) && decide (ns.getD q.toNat 0 ≤ ns.getD p.toNat 0)
  | _, _ => false
theorem getD_at {ns : List Int} {p : Nat} (h : p < ns.length) : (ns.map V.int)[p]? = some (.int (ns.getD p 0)) := by
  rw [List.getElem?_map, List.getD_eq_getElem?_getD, List.getElem?_eq_getElem h]
  rfl
theorem ixN_nat {m j : Nat} (h : j < m) : ixN m (j : Int) = some j := by
  unfold ixN
  rw [if_pos (by omega), if_pos (by omega), Int.toNat_natCast]
theorem ixN_neg1 {m : Nat} (h : 1 ≤ m) : ixN m (-1) = some (m - 1) := by
  unfold ixN
  rw [if_neg (by decide), if_pos (by omega)]
  congr 1
  omega
theorem atI_neg1 {α : Type} {xs : List α} {v : α} (h : 1 ≤ xs.length) (e : xs[xs.length - 1]? = some v) : atI xs (-1) = some v := by
  unfold atI
  rw [ixN_neg1 h]
  exact e
/-! ### pairs in the heap -/
def prO (c : Int × Int) : Option HO := some (.tup [.int c.1, .int c.2])
def PrAt (H : Hp) (ts : List Addr) (cs : List (Int × Int)) : Prop := ts.map H = cs.map prO
def prD (c : Int × Int) : PyData := .tuple [.int c.1, .int c.2]
/-! ### all deeds -/
def rowD (ns : List Int) (hs : List Int) (i : Int) : List (Int × Int) := (hs.filter fun j => giveD ns (.int i) (.int j)).map fun j => (i, j)
def dlL (ns hs us : List Int) : List (Int × Int) := us.flatMap (rowD ns hs)
def dl (ns : List Int) : List (Int × Int) := dlL ns (hold ns ns.length) (hold ns ns.length)
theorem hold_mem {ns : List Int} {p : Nat} (h : p < ns.length) (h0 : 0 < ns.getD p 0) : (p : Int) ∈ hold ns ns.length := by
  unfold hold
  exact List.mem_map.mpr ⟨p, List.mem_filter.mpr ⟨List.mem_range.mpr h, decide_eq_true h0⟩, rfl⟩
end MG

/-! MG: readings of comprehensions that laws use often, for any slots -/
namespace MG
open PySem PySem.Spec PyProof.Rows L2
def cnt (ns : List Int) : Nat := (ns.filter fun n => decide (0 < n)).length
theorem cnt_hold (ns : List Int) : cnt ns = (hold ns ns.length).length := (hold_all ns).symm
theorem decI (a : Int) (b : Int) : decide (V.int a = V.int b) = decide (a = b) := by
  by_cases h : a = b
  · rw [h]; simp
  · rw [decide_eq_false h, decide_eq_false (fun z => h (V.int.inj z))]
theorem hold_get {ns : List Int} {x : Int} (h : x ∈ hold ns ns.length) : ∃ p : Nat, x = p ∧ p < ns.length ∧ 0 < ns.getD p 0 := by
  unfold hold at h
  obtain ⟨p, hp, rfl⟩ := List.mem_map.mp h
  obtain ⟨h1, h2⟩ := List.mem_filter.mp hp
  exact ⟨p, rfl, List.mem_range.mp h1, of_decide_eq_true h2⟩
/-! ### lists of rows as data -/
def rowDt (r : List Int) : PyData := .tuple (r.map PyData.int)
theorem lay_rows : ∀ rs : List (List Int), PyData.canLayAll0 (rs.map rowDt) = true
  | [] => rfl
  | r :: rs => by
    rw [List.map_cons, PyData.canLayAll0, lay_rows rs, rowDt, PyData.canLay0, lay_intsG]; rfl
theorem depth_rows : ∀ rs : List (List Int), PyData.depthAll (rs.map rowDt) ≤ 1
  | [] => Nat.zero_le _
  | r :: rs => by
    have := depth_rows rs
    rw [List.map_cons, PyData.depthAll, rowDt, PyData.depth, depth_intsG]
    omega
theorem shapedL_rows (rs : List (List Int)) : SeqAt.shaped (.list (rs.map rowDt)) = true := by
  unfold SeqAt.shaped
  rw [PyData.canLay0, lay_rows, PyData.depth]
  have := depth_rows rs
  rcases (show PyData.depthAll (rs.map rowDt) = 0 ∨ PyData.depthAll (rs.map rowDt) = 1 by omega) with h | h <;> rw [h] <;> rfl
/-! ### good rows -/
structure Gd (ns : List Int) : Prop where
  nn : ∀ n ∈ ns, 0 ≤ n
  sum : ns.sum < 2 ^ 200
  len : ns.length ≤ 30
  pos : ∃ n ∈ ns, 0 < n
theorem mem_le_sumG : ∀ {l : List Int}, (∀ n ∈ l, 0 ≤ n) → ∀ n ∈ l, n ≤ l.sum
  | [], _, n, h => absurd h List.not_mem_nil
  | x :: l, h, n, hn => by
    have hl : ∀ m ∈ l, 0 ≤ m := fun m hm => h m (List.mem_cons_of_mem _ hm)
    have hs : ∀ {k : List Int}, (∀ m ∈ k, 0 ≤ m) → 0 ≤ k.sum := fun {k} => by
      induction k with
      | nil => intro _; exact Int.le_refl _
      | cons y k ih =>
        intro hk
        rw [List.sum_cons]
        have := hk y List.mem_cons_self
        have := ih fun m hm => hk m (List.mem_cons_of_mem _ hm)
        omega
    rw [List.sum_cons]
    rcases List.mem_cons.mp hn with rfl | hn
    · have := hs hl; omega
    · have := mem_le_sumG hl n hn
      have := h x List.mem_cons_self
      omega
theorem sum_le_mul {c : Int} : ∀ {l : List Int}, (∀ n ∈ l, n ≤ c) → l.sum ≤ l.length * c
  | [], _ => by simp
  | x :: l, h => by
    have h1 := sum_le_mul (c := c) (l := l) fun n hn => h n (List.mem_cons_of_mem _ hn)
    have h2 := h x List.mem_cons_self
    rw [List.sum_cons, List.length_cons]
    have : ((l.length + 1 : Nat) : Int) * c = l.length * c + c := by rw [Int.natCast_add, Int.add_mul]; omega
    omega
theorem brk_layG (r o : List Int) : ∀ x ∈ brkT r o, PyData.canLay0 (.str x) = true := by
  intro x hx
  unfold brkT at hx
  split at hx
  · cases hx
  · split at hx
    · rw [List.mem_singleton.mp hx]; decide +kernel
    · unfold MG.clausesOf at hx
      obtain ⟨y, hy, rfl⟩ := List.mem_map.mp hx
      have hy' := (List.mem_filter.mp hy).1
      unfold asked at hy'
      simp only [List.mem_cons, List.not_mem_nil, or_false] at hy'
      rcases hy' with h | h | h | h | h | h
      · rw [h]; exact (show PyData.canLay0 (.str "sum") = true by decide +kernel)
      · rw [h]; exact (show PyData.canLay0 (.str "nothing") = true by decide +kernel)
      · rw [h]; exact (show PyData.canLay0 (.str "measure") = true by decide +kernel)
      · rw [h]; exact (show PyData.canLay0 (.str "twos") = true by decide +kernel)
      · rw [h]; exact (show PyData.canLay0 (.str "odd ones") = true by decide +kernel)
      · rw [h]; exact (show PyData.canLay0 (.str "doubled") = true by decide +kernel)
end MG

/-! MG: what can be shown (repr), by data alone; amounts -/
namespace MG
open PySem PySem.Spec PyProof.Rows L2
def Sh (n c : Nat) (d : PyData) : Prop := d.showable = true ∧ d.depth ≤ n ∧ d.shown.length ≤ c
theorem Sh.bool (b : Bool) : Sh 0 5 (.bool b) := ⟨rfl, Nat.le_refl _, by cases b <;> decide +kernel⟩
end MG

/-! MG: runs of two, by doubling by rests -/
namespace MG
/-- both parted by the greatest number that parts each -/
def shares (a b : Nat) : Nat := (a + b) / Nat.gcd a b
def due (a b : Nat) : Option Nat := if shares a b / 2 ^ v2 (shares a b) > 1 then none else some (v2 (shares a b))
theorem gcd_pow_two {f S : Nat} (hS : 0 < S) : Nat.gcd (2 ^ f) S = 2 ^ min f (v2 S) := by
  have hm := odd_rest hS
  have e := v2_split hS
  generalize hmm : S / 2 ^ v2 S = m at hm e
  generalize v2 S = t at e ⊢
  subst e
  have cop : Nat.Coprime (2 ^ f) m := by
    refine Nat.Coprime.pow_left f ?_
    rw [Nat.coprime_iff_gcd_eq_one, Nat.gcd_rec, hm]
    rfl
  rw [Nat.Coprime.gcd_mul_right_cancel_right (2 ^ t) cop.symm]
  by_cases h : f ≤ t
  · rw [Nat.min_eq_left h]
    exact Nat.gcd_eq_left (Nat.pow_dvd_pow 2 h)
  · rw [Nat.min_eq_right (by omega)]
    exact Nat.gcd_eq_right (Nat.pow_dvd_pow 2 (by omega))
section
variable {a b : Nat} (ha : 0 < a) (hb : 0 < b)
include ha hb
theorem shares_pos : 0 < shares a b := by
  have h1 : Nat.gcd a b ≤ a := Nat.le_of_dvd ha (Nat.gcd_dvd_left _ _)
  exact Nat.div_pos (by omega) (Nat.gcd_pos_of_pos_left _ ha)
theorem shares_mul : shares a b * Nat.gcd a b = a + b := by
  unfold shares
  refine Nat.div_mul_cancel ?_
  exact Nat.dvd_add (Nat.gcd_dvd_left _ _) (Nat.gcd_dvd_right _ _)
theorem shares_coprime : Nat.Coprime (a / Nat.gcd a b) (shares a b) := by
  have hg : 0 < Nat.gcd a b := Nat.gcd_pos_of_pos_left _ ha
  have h1 : shares a b = a / Nat.gcd a b + b / Nat.gcd a b := by
    unfold shares
    refine Nat.div_eq_of_eq_mul_right hg ?_
    rw [Nat.mul_add, Nat.mul_div_cancel' (Nat.gcd_dvd_left _ _), Nat.mul_div_cancel' (Nat.gcd_dvd_right _ _)]
  rw [h1, Nat.coprime_iff_gcd_eq_one, Nat.gcd_self_add_right]
  exact Nat.coprime_div_gcd_div_gcd hg
theorem gcd_doubled (f : Nat) : Nat.gcd (a * 2 ^ f) (a + b) = Nat.gcd a b * Nat.gcd (2 ^ f) (shares a b) := by
  have hg : 0 < Nat.gcd a b := Nat.gcd_pos_of_pos_left _ ha
  have e1 : a = Nat.gcd a b * (a / Nat.gcd a b) := (Nat.mul_div_cancel' (Nat.gcd_dvd_left _ _)).symm
  have e2 : a + b = Nat.gcd a b * shares a b := by rw [Nat.mul_comm]; exact (shares_mul ha hb).symm
  have c := shares_coprime ha hb
  generalize shares a b = S at e2 c ⊢
  rw [e2]
  generalize Nat.gcd a b = g at e1 c ⊢
  generalize a / g = A at e1 c
  subst e1
  rw [Nat.mul_assoc, Nat.gcd_mul_left, Nat.Coprime.gcd_mul_left_cancel _ c]
/-- what is left of the first one -/
theorem rest_pos {f : Nat} (h : due a b = none ∨ ∃ d, due a b = some d ∧ f < d) : 0 < a * 2 ^ f % (a + b) := by
  refine Nat.pos_of_ne_zero fun z => ?_
  have hd : (a + b) ∣ a * 2 ^ f := Nat.dvd_of_mod_eq_zero z
  have hS := shares_pos ha hb
  have e : Nat.gcd (a * 2 ^ f) (a + b) = a + b := Nat.gcd_eq_right hd
  rw [gcd_doubled ha hb, gcd_pow_two hS] at e
  have e2 := shares_mul ha hb
  have hg : 0 < Nat.gcd a b := Nat.gcd_pos_of_pos_left _ ha
  have e3 : 2 ^ min f (v2 (shares a b)) = shares a b := by
    rw [← e2, Nat.mul_comm] at e
    exact Nat.eq_of_mul_eq_mul_right hg e
  have hv : v2 (shares a b) = min f (v2 (shares a b)) := v2_unique (m := 1) (by rw [Nat.mul_one]; exact e3.symm) rfl
  have hle : v2 (shares a b) ≤ f := by omega
  have hone : shares a b / 2 ^ v2 (shares a b) = 1 := by
    rw [hv, e3]
    exact Nat.div_self hS
  have hdue : due a b = some (v2 (shares a b)) := by
    unfold due
    rw [if_neg (by rw [hone]; omega)]
  rcases h with h | ⟨d, h, hf⟩
  · rw [hdue] at h; cases h
  · rw [hdue] at h
    cases h
    omega
/-- the two rests are the whole -/
theorem rest_sum (f : Nat) : a * 2 ^ f % (a + b) = 0 ∧ b * 2 ^ f % (a + b) = 0 ∨ a * 2 ^ f % (a + b) + b * 2 ^ f % (a + b) = a + b := by
  have hs : 0 < a + b := by omega
  have h1 : (a * 2 ^ f + b * 2 ^ f) % (a + b) = 0 := by
    rw [← Nat.add_mul]
    exact Nat.mul_mod_right _ _
  rw [Nat.add_mod] at h1
  have l1 : a * 2 ^ f % (a + b) < a + b := Nat.mod_lt _ hs
  have l2 : b * 2 ^ f % (a + b) < a + b := Nat.mod_lt _ hs
  generalize a * 2 ^ f % (a + b) = x at h1 l1 ⊢
  generalize b * 2 ^ f % (a + b) = y at h1 l2 ⊢
  by_cases h : x + y < a + b
  · rw [Nat.mod_eq_of_lt h] at h1
    left; omega
  · right
    rw [Nat.mod_eq_sub_mod (by omega), Nat.mod_eq_of_lt (by omega)] at h1
    omega
end
end MG

/-! MG: a run is its deeds -/
namespace MG
open PySem PySem.Spec PyProof.Rows L2
/-- a statement, a word that holds behind it, the rest -/
def tMid (t u : TS) : TS := fun D σ H => ∃ M : L2.St → Hp → Prop, t { D with nx := M } σ H ∧ ∀ σ1 H1, M σ1 H1 → u D σ1 H1
def setP (ns : List Int) (i j : Nat) (x : Int) : List Int := (ns.set i x).set j (ns.getD i 0 + ns.getD j 0 - x)
structure Two (ns : List Int) (i j p q : Nat) : Prop where
  hi : i < ns.length
  hj : j < ns.length
  ne : i ≠ j
  ei : ns.getD i 0 = p
  ej : ns.getD j 0 = q
  p0 : 0 < p
  q0 : 0 < q
theorem getD_set {l : List Int} {i j : Nat} {v : Int} (hi : i < l.length) : (l.set i v).getD j 0 = if i = j then v else l.getD j 0 := by
  rw [List.getD_eq_getElem?_getD]
  by_cases h : i = j
  · subst h
    rw [List.getElem?_set_self hi, if_pos rfl]; rfl
  · rw [List.getElem?_set_ne h, if_neg h, List.getD_eq_getElem?_getD]
theorem setP_i {ns : List Int} {i j p q : Nat} (T : Two ns i j p q) (x : Int) : (setP ns i j x).getD i 0 = x := by
  unfold setP
  rw [getD_set (by rw [List.length_set]; exact T.hj), if_neg T.ne.symm, getD_set T.hi, if_pos rfl]
theorem setP_j {ns : List Int} {i j p q : Nat} (T : Two ns i j p q) (x : Int) : (setP ns i j x).getD j 0 = p + q - x := by
  unfold setP
  rw [getD_set (by rw [List.length_set]; exact T.hj), if_pos rfl, T.ei, T.ej]
theorem setP_len (ns : List Int) (i j : Nat) (x : Int) : (setP ns i j x).length = ns.length := by
  unfold setP
  rw [List.length_set, List.length_set]
theorem setP_setP {ns : List Int} {i j p q : Nat} (T : Two ns i j p q) (x y : Int) : setP (setP ns i j x) i j y = setP ns i j y := by
  have h1 := setP_i T x
  have h2 := setP_j T x
  have e : setP (setP ns i j x) i j y = ((setP ns i j x).set i y).set j (p + q - y) := by
    show ((setP ns i j x).set i y).set j ((setP ns i j x).getD i 0 + (setP ns i j x).getD j 0 - y) = _
    rw [h1, h2]
    congr 1
    omega
  have e2 : setP ns i j y = (ns.set i y).set j (p + q - y) := by
    unfold setP
    rw [T.ei, T.ej]
  rw [e, e2]
  unfold setP
  rw [List.set_comm _ _ T.ne.symm, List.set_set, List.set_set]
theorem two_step {ns : List Int} {i j p q : Nat} (T : Two ns i j p q) : ∃ a b, MayG ns a b ∧ deed ns a b = setP ns i j ((2 * p % (p + q) : Nat) : Int) := by
  have hi := T.ei
  have hj := T.ej
  have p0 := T.p0
  have q0 := T.q0
  by_cases h : q ≤ p
  · refine ⟨i, j, ⟨T.hi, T.hj, T.ne, by omega, by omega⟩, ?_⟩
    have e : 2 * p % (p + q) = p - q := by
      rw [show 2 * p = (p - q) + (p + q) by omega, Nat.add_mod_right, Nat.mod_eq_of_lt (by omega)]
    unfold deed setP
    rw [hi, hj, e]
    congr 1
    · congr 1
      omega
    · omega
  · refine ⟨j, i, ⟨T.hj, T.hi, T.ne.symm, by omega, by omega⟩, ?_⟩
    have e : 2 * p % (p + q) = 2 * p := Nat.mod_eq_of_lt (by omega)
    unfold deed setP
    rw [hi, hj, e, List.set_comm _ _ T.ne]
    have e1 : ((2 * p : Nat) : Int) = 2 * (p : Int) := by omega
    rw [e1]
    congr 2
    omega
/-- the same told from the other one's side -/
theorem setP_rest {ns : List Int} {i j p q k : Nat} (T : Two ns i j p q) : setP ns i j ((p * 2 ^ k % (p + q) : Nat) : Int) = if 0 < q * 2 ^ k % (p + q) then (ns.set i ((p : Int) + q - (q * 2 ^ k % (p + q) : Nat))).set j ((q * 2 ^ k % (p + q) : Nat) : Int) else (ns.set i 0).set j ((p : Int) + q) := by
  have h := rest_sum (a := p) (b := q) T.p0 T.q0 k
  unfold setP
  rw [T.ei, T.ej]
  rcases h with ⟨h1, h2⟩ | h
  · rw [h1, h2, if_neg (by omega)]
    congr 1 <;> omega
  · have hlt : p * 2 ^ k % (p + q) < p + q := Nat.mod_lt _ (by have := T.p0; omega)
    rw [if_pos (by omega)]
    have e1 : ((p * 2 ^ k % (p + q) : Nat) : Int) = (p : Int) + q - (q * 2 ^ k % (p + q) : Nat) := by omega
    rw [e1]
    congr 1 <;> omega
end MG

/-! MG: the clause pair -/
namespace MG
open PySem PySem.Spec PyProof.Rows L2
/-- behind how many deeds the other one has a, from x at this one, s together -/
def du (s a : Nat) : Nat → Nat → Nat → Option Nat
  | 0, _, _ => none
  | f + 1, x, k => if s - x = a then some k else if x = 0 then none else du s a f (2 * x % s) (k + 1)
def optV : Option Nat → V
  | none => .non
  | some d => .int d
def cb2 (p q oi oj : Nat) : Bool := if oj = 0 then (du (p + q) oi (p + q) q 0).isSome else (du (p + q) oj (p + q) p 0).isSome
def pairB (r o : List Int) : Bool :=
  match hold r r.length with
  | [i, j] => cb2 (r.getD i.toNat 0).toNat (r.getD j.toNat 0).toNat (o.getD i.toNat 0).toNat (o.getD j.toNat 0).toNat
  | _ => true
def brkF (r o : List Int) : List Str := if r = o then [] else if r.length ≠ o.length then ["places"] else if clausesOf r o ≠ [] ∨ 3 ≤ (hold r r.length).length then clausesOf r o else if pairB r o = true then [] else ["pair"]
theorem brkF_three {r o : List Int} (h : 3 ≤ (hold r r.length).length) : brkF r o = brkT r o := by
  unfold brkF brkT
  rw [if_pos (show clausesOf r o ≠ [] ∨ 3 ≤ (hold r r.length).length from .inr h)]
/-- what is asked of rows of two holders -/
def PairQ (r o : List Int) : Prop := ¬ r = o → r.length = o.length → clausesOf r o = [] → ¬ 3 ≤ (hold r r.length).length → (hold r r.length).length = 2 ∧ r.sum ≤ 100000
theorem du_none {s a : Nat} : ∀ {f x k : Nat}, (∀ m, s - x * 2 ^ m % s ≠ a) → x < s → du s a f x k = none
  | 0, _, _, _, _ => rfl
  | f + 1, x, k, h, hx => by
    have h0 := h 0
    rw [Nat.pow_zero, Nat.mul_one, Nat.mod_eq_of_lt hx] at h0
    rw [du, if_neg h0]
    split
    · rfl
    · refine du_none (fun m => ?_) (Nat.mod_lt _ (by omega))
      have e : 2 * x % s * 2 ^ m % s = x * 2 ^ (m + 1) % s := by
        rw [Nat.mod_mul_mod, Nat.pow_succ, Nat.mul_comm 2 x, Nat.mul_assoc, Nat.mul_comm (2 ^ m) 2]
      rw [e]
      exact h (m + 1)
theorem hold_two {r : List Int} {i j : Int} (h : hold r r.length = [i, j]) : ∃ p q : Nat, i = p ∧ j = q ∧ p < r.length ∧ q < r.length ∧ p ≠ q ∧ 0 < r.getD p 0 ∧ 0 < r.getD q 0 := by
  obtain ⟨p, rfl, h1, h2⟩ := hold_get (ns := r) (x := i) (by rw [h]; simp)
  obtain ⟨q, rfl, h3, h4⟩ := hold_get (ns := r) (x := j) (by rw [h]; simp)
  refine ⟨p, q, rfl, rfl, h1, h3, fun z => ?_, h2, h4⟩
  subst z
  unfold hold at h
  have nd : (((List.range r.length).filter fun j => decide (0 < r.getD j 0)).map fun (j : Nat) => (j : Int)).Nodup := by
    refine List.Pairwise.map _ (fun a b hab => ?_) (List.Pairwise.filter _ List.nodup_range)
    intro z
    exact hab (by omega)
  rw [h] at nd
  simp at nd
end MG

/-! MG: clauses of rows many times; rows of unit 1 -/
namespace MG
open PySem PySem.Spec PyProof.Rows L2
def sc (c : Int) (r : List Int) : List Int := r.map fun n => c * n
theorem dec_iff {p q : Prop} [Decidable p] [Decidable q] (h : p ↔ q) : decide p = decide q := by
  by_cases hp : p
  · rw [decide_eq_true hp, decide_eq_true (h.mp hp)]
  · rw [decide_eq_false hp, decide_eq_false (fun z => hp (h.mpr z))]
/-! ### rows of unit 1 -/
def oddc (l : List Int) : Nat := (l.filter fun n => decide (n % 2 = 1)).length
theorem cnt_append (a b : List Int) : cnt (a ++ b) = cnt a + cnt b := by
  unfold cnt
  rw [List.filter_append, List.length_append]
theorem cnt_zeros (k : Nat) : cnt (List.replicate k 0) = 0 := by
  unfold cnt
  rw [List.filter_eq_nil_iff.mpr (fun n hn => by rw [List.eq_of_mem_replicate hn]; decide)]; rfl
theorem cnt_perm {a b : List Int} (h : a.Perm b) : cnt a = cnt b := (h.filter _).length_eq
/-- a row: its unit's twos t, its measure m -/
structure Ru (r : List Int) (S : Int) (g k c : Nat) : Prop where
  nn : ∀ n ∈ r, 0 ≤ n
  sum : r.sum = S
  gl : gl r = g
  odd : oddc r = k
  cnt : MG.cnt r = c
end MG

namespace K70
open PySem PySem.Spec PyProof.Rows L2 MG
/-- a statement, a word that holds behind it, the rest -/
def tMid (t u : TS) : TS := fun D σ H => ∃ M : L2.St → Hp → Prop, t { D with nx := M } σ H ∧ ∀ σ1 H1, M σ1 H1 → u D σ1 H1
theorem pss_mid {X : Cx} {st : Stmt} {rest : List Stmt} {t u : TS} (a : PS X st t) (b : PSs X rest u) : PSs X (st :: rest) (tMid t u) := by
  constructor
  rintro pins s σ H D I ⟨M, hm, hu⟩
  refine wpAny_execs_cons (thn (a.run pins s σ H { D with nx := M } I hm) ?_)
  intro fl s1 q
  cases fl with
  | next =>
    obtain ⟨σ1, H1, I1, w⟩ := q
    exact b.run pins s1 σ1 H1 D I1 (hu σ1 H1 w)
  | ret v => exact q
  | brk => exact q
  | cont => exact q
end K70

/-! MG: two holders: what comes of doublings by rests -/
namespace MG
open PySem PySem.Spec PyProof.Rows L2
theorem few_below : ∀ (s : Nat) (l : List Nat), l.Nodup → (∀ x ∈ l, x < s) → l.length ≤ s
  | 0, [], _, _ => Nat.le_refl _
  | 0, x :: _, _, h => absurd (h x (by simp)) (by omega)
  | s + 1, l, nd, h => by
    by_cases hm : s ∈ l
    · have h1 := few_below s (l.erase s) (nd.erase s) fun x hx => by
        obtain ⟨h1, h2⟩ := nd.mem_erase_iff.mp hx
        have := h x h2
        omega
      rw [List.length_erase_of_mem hm] at h1
      omega
    · have h1 := few_below s l nd fun x hx => by
        have := h x hx
        have : x ≠ s := fun z => hm (z ▸ hx)
        omega
      omega
theorem again {f : Nat → Nat} {s : Nat} (hf : ∀ n, f n < s) : ∃ i j, i < j ∧ j ≤ s ∧ f i = f j := by
  apply Classical.byContradiction
  intro h
  have nd : ((List.range (s + 1)).map f).Nodup := by
    rw [List.nodup_iff_pairwise_ne, List.pairwise_map]
    refine List.Pairwise.imp_of_mem ?_ List.pairwise_lt_range
    intro i j hi hj hij z
    exact h ⟨i, j, hij, by have := List.mem_range.mp hj; omega, z⟩
  have := few_below s _ nd fun x hx => by
    obtain ⟨n, _, rfl⟩ := List.mem_map.mp hx
    exact hf n
  rw [List.length_map, List.length_range] at this
  omega
theorem soon {f g : Nat → Nat} {s : Nat} (hf : ∀ n, f n < s) (hg : ∀ n, f (n + 1) = g (f n)) : ∀ m, ∃ m', m' < s ∧ f m' = f m := by
  obtain ⟨i, j, hij, hj, e⟩ := again hf
  have sh : ∀ k, f (i + k) = f (j + k) := fun k => by
    induction k with
    | zero => exact e
    | succ k ih => rw [← Nat.add_assoc, ← Nat.add_assoc, hg, hg, ih]
  intro m
  induction m using Nat.strongRecOn with
  | ind m ih =>
    by_cases hm : m < s
    · exact ⟨m, hm, rfl⟩
    · obtain ⟨m', h1, h2⟩ := ih (i + (m - j)) (by omega)
      refine ⟨m', h1, ?_⟩
      rw [h2, sh, show j + (m - j) = m by omega]
theorem dbl (s x m : Nat) : 2 * x % s * 2 ^ m % s = x * 2 ^ (m + 1) % s := by
  rw [Nat.mod_mul_mod, Nat.pow_succ, Nat.mul_comm 2 x, Nat.mul_assoc, Nat.mul_comm (2 ^ m) 2]
theorem du_some {s a : Nat} : ∀ {f x k : Nat} (m : Nat), m < f → x < s → s - x * 2 ^ m % s = a → (du s a f x k).isSome = true
  | f + 1, x, k, m, hm, hx, e => by
    rw [du]
    split
    · rfl
    · rename_i h0
      cases m with
      | zero =>
        rw [Nat.pow_zero, Nat.mul_one, Nat.mod_eq_of_lt hx] at e
        exact absurd e h0
      | succ m =>
        split
        · rename_i hz
          rw [hz, Nat.zero_mul, Nat.zero_mod] at e
          rw [hz] at h0
          exact absurd e h0
        · refine du_some m (by omega) (Nat.mod_lt _ (by omega)) ?_
          rw [dbl]; exact e
/-- within as many steps as there are rests -/
theorem du_iff {s a x k : Nat} (hx : x < s) : (du s a s x k).isSome = true ↔ ∃ m, s - x * 2 ^ m % s = a := by
  constructor
  · intro h
    apply Classical.byContradiction
    intro z
    rw [du_none (fun m e => z ⟨m, e⟩) hx] at h
    cases h
  · rintro ⟨m, e⟩
    obtain ⟨m', h1, h2⟩ := soon (f := fun m => x * 2 ^ m % s) (g := fun y => y * 2 % s) (s := s) (fun n => Nat.mod_lt _ (by omega)) (fun n => by
      show x * 2 ^ (n + 1) % s = x * 2 ^ n % s * 2 % s
      rw [Nat.mod_mul_mod, Nat.pow_succ, Nat.mul_assoc]) m
    have h2' : x * 2 ^ m' % s = x * 2 ^ m % s := h2
    exact du_some m' h1 hx (by rw [h2']; exact e)
/-- the first one's amount behind m doublings, by rests of the sum -/
def Pr (p q u v : Nat) : Prop := ∃ m, p * 2 ^ m % (p + q) = u % (p + q) ∧ u + v = p + q
theorem neg_rest {p q : Nat} (m : Nat) : (p * 2 ^ m % (p + q) + q * 2 ^ m % (p + q)) % (p + q) = 0 := by
  rw [← Nat.add_mod, ← Nat.add_mul]
  exact Nat.mul_mod_right _ _
theorem neg_eq {p q u v m : Nat} (h : 0 < p + q) (e : u + v = p + q) : p * 2 ^ m % (p + q) = u % (p + q) ↔ q * 2 ^ m % (p + q) = v % (p + q) := by
  have h1 := neg_rest (p := p) (q := q) m
  have a1 : p * 2 ^ m % (p + q) < p + q := Nat.mod_lt _ h
  have a2 : q * 2 ^ m % (p + q) < p + q := Nat.mod_lt _ h
  generalize p * 2 ^ m % (p + q) = x at h1 a1 ⊢
  generalize q * 2 ^ m % (p + q) = y at h1 a2 ⊢
  generalize p + q = s at *
  have hxy : x + y = 0 ∨ x + y = s := by
    have h2 : x + y < s + s := by omega
    by_cases z : x + y < s
    · rw [Nat.mod_eq_of_lt z] at h1; exact .inl h1
    · rw [Nat.mod_eq_sub_mod (by omega), Nat.mod_eq_of_lt (by omega)] at h1; exact .inr (by omega)
  by_cases hu : u = s
  · have hv : v = 0 := by omega
    rw [hu, hv, Nat.mod_self, Nat.zero_mod]; omega
  · by_cases hv : v = s
    · have hu0 : u = 0 := by omega
      rw [hv, hu0, Nat.mod_self, Nat.zero_mod]; omega
    · rw [Nat.mod_eq_of_lt (show u < s by omega), Nat.mod_eq_of_lt (show v < s by omega)]; omega
theorem Pr.swap {p q u v : Nat} (h : 0 < p + q) : Pr p q u v ↔ Pr q p v u := by
  constructor
  · rintro ⟨m, e, s⟩
    exact ⟨m, by rw [Nat.add_comm q p]; exact (neg_eq h s).mp e, by omega⟩
  · rintro ⟨m, e, s⟩
    rw [Nat.add_comm q p] at e s
    exact ⟨m, (neg_eq h (by omega)).mpr e, by omega⟩
theorem sub_mod {s x u v : Nat} (hx : x < s) (e : u + v = s) (hv : v ≠ 0) : s - x = v ↔ x = u % s := by
  rw [Nat.mod_eq_of_lt (show u < s by omega)]; omega
theorem cb_iff {p q u v : Nat} (hp : 0 < p) (hq : 0 < q) (e : u + v = p + q) : cb2 p q u v = true ↔ Pr p q u v := by
  have hs : 0 < p + q := by omega
  unfold cb2
  by_cases hv : v = 0
  · rw [if_pos hv, du_iff (by omega), Pr.swap hs]
    constructor
    · rintro ⟨m, h⟩
      exact ⟨m, by rw [Nat.add_comm q p]; exact (sub_mod (Nat.mod_lt _ hs) (show v + u = p + q by omega) (by omega)).mp h, by omega⟩
    · rintro ⟨m, h, _⟩
      rw [Nat.add_comm q p] at h
      exact ⟨m, (sub_mod (Nat.mod_lt _ hs) (show v + u = p + q by omega) (by omega)).mpr h⟩
  · rw [if_neg hv, du_iff (by omega)]
    constructor
    · rintro ⟨m, h⟩
      exact ⟨m, (sub_mod (Nat.mod_lt _ hs) e hv).mp h, e⟩
    · rintro ⟨m, h, _⟩
      exact ⟨m, (sub_mod (Nat.mod_lt _ hs) e hv).mpr h⟩
theorem Pr.trans {p q u v a b : Nat} (h1 : Pr p q u v) (h2 : Pr u v a b) : Pr p q a b := by
  obtain ⟨m, e1, s1⟩ := h1
  obtain ⟨n, e2, s2⟩ := h2
  rw [s1] at e2 s2
  refine ⟨m + n, ?_, s2⟩
  rw [Nat.pow_add, ← Nat.mul_assoc, ← Nat.mod_mul_mod, e1, Nat.mod_mul_mod]
  exact e2
/-- a deed -/
theorem Pr.deed {p q : Nat} (h : q ≤ p) : Pr p q (p - q) (2 * q) := by
  refine ⟨1, ?_, by omega⟩
  rw [Nat.pow_one, show p * 2 = p - q + (p + q) by omega, Nat.add_mod_right]
theorem Pr.deed' {p q : Nat} (h : p ≤ q) : Pr p q (2 * p) (q - p) := by
  refine ⟨1, ?_, by omega⟩
  rw [Nat.pow_one, Nat.mul_comm]
end MG

/-! MG: the broken clauses of rows laid in another order, with nothings, many times -/
namespace MG
open PySem PySem.Spec PyProof.Rows L2
/-- two entries whose first ones have something, the first pair's second ones come of them -/
def PH (Z : List (Int × Int)) : Prop := ∃ a b rest, Z.Perm (a :: b :: rest) ∧ 0 < a.1 ∧ 0 < b.1 ∧ Pr a.1.toNat b.1.toNat a.2.toNat b.2.toNat
/-- two pairs of rows, one laid from the other with nothings beside -/
structure Alike (r o r' o' : List Int) (k : Nat) : Prop where
  l : r.length = o.length
  l' : r'.length = o'.length
  pm : (r'.zip o').Perm (r.zip o ++ List.replicate k (0, 0))
theorem zipF : ∀ {r o : List Int}, r.length = o.length → (r.zip o).map Prod.fst = r
  | [], [], _ => rfl
  | x :: r, y :: o, h => by
    rw [List.zip_cons_cons, List.map_cons, zipF (by simpa using h)]
theorem zipS : ∀ {r o : List Int}, r.length = o.length → (r.zip o).map Prod.snd = o
  | [], [], _ => rfl
  | x :: r, y :: o, h => by
    rw [List.zip_cons_cons, List.map_cons, zipS (by simpa using h)]
theorem cnt_more {a b : List Int} {k : Nat} (h : b.Perm (a ++ List.replicate k 0)) : cnt b = cnt a := by
  rw [cnt_perm h, cnt_append, cnt_zeros]; rfl
theorem sum_more {a b : List Int} {k : Nat} (h : b.Perm (a ++ List.replicate k 0)) : b.sum = a.sum := by
  have e : ∀ {x y : List Int}, x.Perm y → x.sum = y.sum := fun hp => by
    induction hp with
    | nil => rfl
    | cons x _ ih => rw [List.sum_cons, List.sum_cons, ih]
    | swap x y l => rw [List.sum_cons, List.sum_cons, List.sum_cons, List.sum_cons]; omega
    | trans _ _ i1 i2 => rw [i1, i2]
  have z : ∀ k : Nat, (List.replicate k (0 : Int)).sum = 0 := fun k => by
    induction k with
    | zero => rfl
    | succ k ih => rw [List.replicate_succ, List.sum_cons, ih]; rfl
  rw [e h, List.sum_append, z]; omega
theorem zip_range {r o : List Int} (l : r.length = o.length) : (List.range r.length).map (fun j => (r.getD j 0, o.getD j 0)) = r.zip o := by
  refine List.ext_getElem (by rw [List.length_map, List.length_range, List.length_zip]; omega) fun i h1 h2 => ?_
  rw [List.length_map, List.length_range] at h1
  rw [List.getElem_map, List.getElem_range, List.getElem_zip, getD_eq h1, getD_eq (by omega)]
theorem hold_zip {r o : List Int} (l : r.length = o.length) : (hold r r.length).map (fun i => (r.getD i.toNat 0, o.getD i.toNat 0)) = (r.zip o).filter fun z => decide (0 < z.1) := by
  unfold hold
  rw [List.map_map, ← zip_range l, List.filter_map]
  rfl
theorem two_perm {α : Type} {a b c d : α} (h : [a, b].Perm [c, d]) : (a = c ∧ b = d) ∨ (a = d ∧ b = c) := by
  have hc : c ∈ [a, b] := h.mem_iff.mpr (by simp)
  rcases List.mem_cons.mp hc with rfl | hc
  · have := h.cons_inv
    exact .inl ⟨rfl, List.singleton_perm_singleton.mp this⟩
  · have hcb := List.mem_singleton.mp hc
    subst hcb
    have h' := (List.Perm.swap a c []).trans h
    exact .inr ⟨List.singleton_perm_singleton.mp h'.cons_inv, rfl⟩
theorem sum_zero : ∀ {l : List Int}, (∀ n ∈ l, n = 0) → l.sum = 0
  | [], _ => rfl
  | x :: l, h => by
    rw [List.sum_cons, h x (by simp), sum_zero fun n hn => h n (List.mem_cons_of_mem _ hn)]; rfl
theorem perm_sumV {a b : List Int} (h : a.Perm b) : a.sum = b.sum := by
  have := sum_more (k := 0) (a := b) (b := a) (by rw [List.replicate_zero, List.append_nil]; exact h)
  exact this
theorem PH_iff {Z : List (Int × Int)} {a b : Int × Int} (hF : (Z.filter fun z => decide (0 < z.1)) = [a, b]) (n1 : ∀ z ∈ Z, 0 ≤ z.1) : PH Z ↔ Pr a.1.toNat b.1.toNat a.2.toNat b.2.toNat := by
  have ha : 0 < a.1 := by
    have : a ∈ Z.filter fun z => decide (0 < z.1) := by rw [hF]; simp
    exact of_decide_eq_true (List.mem_filter.mp this).2
  have hb : 0 < b.1 := by
    have : b ∈ Z.filter fun z => decide (0 < z.1) := by rw [hF]; simp
    exact of_decide_eq_true (List.mem_filter.mp this).2
  constructor
  · rintro ⟨c, d, rest, pm, hc, hd, h⟩
    have p2 := pm.filter fun z => decide (0 < z.1)
    rw [hF, List.filter_cons_of_pos (by simpa using hc), List.filter_cons_of_pos (by simpa using hd)] at p2
    have hl := p2.length_eq
    have hr : rest.filter (fun z => decide (0 < z.1)) = [] := List.length_eq_zero_iff.mp (by
      rw [List.length_cons, List.length_cons, List.length_cons, List.length_cons, List.length_nil] at hl
      omega)
    rw [hr] at p2
    rcases two_perm p2 with ⟨rfl, rfl⟩ | ⟨rfl, rfl⟩
    · exact h
    · exact (Pr.swap (by omega)).mp h
  · intro h
    refine ⟨a, b, Z.filter fun z => !decide (0 < z.1), ?_, ha, hb, h⟩
    have := List.filter_append_perm (fun z : Int × Int => decide (0 < z.1)) Z
    rw [hF] at this
    exact this.symm
theorem pairB_iff {r o : List Int} (l : r.length = o.length) (nr : ∀ n ∈ r, 0 ≤ n) (no : ∀ n ∈ o, 0 ≤ n) (h2 : (hold r r.length).length = 2) (hs : o.sum = r.sum) (hh : hfn r o = false) : pairB r o = true ↔ PH (r.zip o) := by
  obtain ⟨i, j, hij⟩ : ∃ i j, hold r r.length = [i, j] := by
    match hold r r.length, h2 with
    | [i, j], _ => exact ⟨i, j, rfl⟩
  have hz := hold_zip (r := r) (o := o) l
  rw [hij] at hz
  have hF : ((r.zip o).filter fun z => decide (0 < z.1)) = [(r.getD i.toNat 0, o.getD i.toNat 0), (r.getD j.toNat 0, o.getD j.toNat 0)] := hz.symm
  have n1 : ∀ z ∈ r.zip o, 0 ≤ z.1 := fun z h => nr _ (List.of_mem_zip h).1
  have n2 : ∀ z ∈ r.zip o, 0 ≤ z.2 := fun z h => no _ (List.of_mem_zip h).2
  rw [PH_iff hF n1]
  unfold pairB
  rw [hij]
  have pm := List.filter_append_perm (fun z : Int × Int => decide (0 < z.1)) (r.zip o)
  rw [hF] at pm
  have z0 : ∀ z ∈ (r.zip o).filter (fun z => !decide (0 < z.1)), z.1 = 0 ∧ z.2 = 0 := fun z h => by
    obtain ⟨h1, h3⟩ := List.mem_filter.mp h
    have a1 := n1 z h1
    have a2 := n2 z h1
    have e1 : z.1 = 0 := by
      simp only [Bool.not_eq_true', decide_eq_false_iff_not] at h3
      omega
    refine ⟨e1, ?_⟩
    unfold hfn at hh
    have := (List.any_eq_false.mp hh) z h1
    simp only [Bool.and_eq_true, decide_eq_true_eq] at this
    have : ¬ z.2 > 0 := fun y => this ⟨e1, y⟩
    omega
  generalize (r.zip o).filter (fun z => !decide (0 < z.1)) = rest at pm z0
  have s1 := perm_sumV (pm.map Prod.fst)
  have s2 := perm_sumV (pm.map Prod.snd)
  rw [zipF l, List.map_append, List.sum_append, sum_zero (l := rest.map Prod.fst) (fun n hn => by
    obtain ⟨z, hz, rfl⟩ := List.mem_map.mp hn
    exact (z0 z hz).1)] at s1
  rw [zipS l, List.map_append, List.sum_append, sum_zero (l := rest.map Prod.snd) (fun n hn => by
    obtain ⟨z, hz, rfl⟩ := List.mem_map.mp hn
    exact (z0 z hz).2)] at s2
  have t1 : r.getD i.toNat 0 + (r.getD j.toNat 0 + 0) + 0 = r.sum := s1
  have t2 : o.getD i.toNat 0 + (o.getD j.toNat 0 + 0) + 0 = o.sum := s2
  obtain ⟨p, q, rfl, rfl, hp, hq, hne, p0, q0⟩ := hold_two hij
  simp only [Int.toNat_natCast] at t1 t2 ⊢
  have u0 : 0 ≤ o.getD p 0 := by
    rw [getD_eq (by omega)]; exact no _ (List.getElem_mem _)
  have v0 : 0 ≤ o.getD q 0 := by
    rw [getD_eq (by omega)]; exact no _ (List.getElem_mem _)
  exact cb_iff (by omega) (by omega) (by omega)
end MG

/-! MG: what comes of what comes -/
namespace MG
open PySem PySem.Spec PyProof.Rows L2
/-- no clause of any row is broken -/
structure Cl (r o : List Int) : Prop where
  sum : o.sum = r.sum
  hf : hfn r o = false
  ms : MG.ms o = MG.ms r
  tw : v2 (gl r) ≤ v2 (gl o)
  od : v2 (gl o) = v2 (gl r) → MG.od o ≤ MG.od r
  dbl : v2 (gl o) = v2 (gl r) → MG.od o ≠ (hold o o.length).length
theorem cl_iff {r o : List Int} : clausesOf r o = [] ↔ Cl r o := by
  unfold clausesOf
  rw [List.map_eq_nil_iff, List.filter_eq_nil_iff]
  unfold asked
  constructor
  · intro h
    have h1 := h ("sum", decide (o.sum ≠ r.sum)) (by simp)
    have h2 := h ("nothing", hfn r o) (by simp)
    have h3 := h ("measure", decide (MG.ms o ≠ MG.ms r)) (by simp)
    have h4 := h ("twos", decide (v2 (gl o) < v2 (gl r))) (by simp)
    have h5 := h ("odd ones", decide (v2 (gl o) = v2 (gl r)) && decide (MG.od r < MG.od o)) (by simp)
    have h6 := h ("doubled", decide (v2 (gl o) = v2 (gl r)) && decide (MG.od o = (hold o o.length).length)) (by simp)
    simp only [Bool.and_eq_true, decide_eq_true_eq, Bool.not_eq_true] at h1 h2 h3 h4 h5 h6
    refine ⟨Classical.byContradiction h1, h2, Classical.byContradiction h3, by omega, fun e => ?_, fun e z => h6 ⟨e, z⟩⟩
    have : ¬ MG.od r < MG.od o := fun z => h5 ⟨e, z⟩
    omega
  · intro c x hx
    simp only [List.mem_cons, List.not_mem_nil, or_false] at hx
    rcases hx with rfl | rfl | rfl | rfl | rfl | rfl
    · simp [c.sum]
    · simp [c.hf]
    · simp [c.ms]
    · have := c.tw; simp; omega
    · simp only [Bool.and_eq_true, decide_eq_true_eq]
      rintro ⟨e, z⟩
      have := c.od e
      omega
    · simp only [Bool.and_eq_true, decide_eq_true_eq]
      rintro ⟨e, z⟩
      exact c.dbl e z
theorem hfn_pos {r o : List Int} (l : r.length = o.length) (no : ∀ n ∈ o, 0 ≤ n) (h : hfn r o = false) (p : Nat) (hp : r.getD p 0 = 0) : o.getD p 0 = 0 := by
  by_cases hl : p < r.length
  · unfold hfn at h
    have hl' : p < o.length := by omega
    have hm : (r.getD p 0, o.getD p 0) ∈ r.zip o := by
      rw [← zip_range l]
      exact List.mem_map.mpr ⟨p, List.mem_range.mpr hl, rfl⟩
    have := (List.any_eq_false.mp h) _ hm
    simp only [Bool.and_eq_true, decide_eq_true_eq] at this
    have h1 : ¬ o.getD p 0 > 0 := fun y => this ⟨hp, y⟩
    have h2 : 0 ≤ o.getD p 0 := by rw [getD_eq hl']; exact no _ (List.getElem_mem _)
    omega
  · rw [List.getD_eq_getElem?_getD, List.getElem?_eq_none (by omega)]; rfl
theorem Cl.trans {r m o : List Int} (l1 : r.length = m.length) (l2 : m.length = o.length) (nm : ∀ n ∈ m, 0 ≤ n) (no : ∀ n ∈ o, 0 ≤ n) (a : Cl r m) (b : Cl m o) : Cl r o := by
  refine ⟨b.sum.trans a.sum, hfn_of fun p h => hfn_pos l2 no b.hf p (hfn_pos l1 nm a.hf p h), b.ms.trans a.ms, Nat.le_trans a.tw b.tw, fun e => ?_, fun e => ?_⟩
  · have h1 := a.tw
    have h2 := b.tw
    exact Nat.le_trans (b.od (by omega)) (a.od (by omega))
  · have h1 := a.tw
    have h2 := b.tw
    exact b.dbl (by omega)
theorem pairB_pos {r o : List Int} {p q : Nat} (l : r.length = o.length) (nr : ∀ n ∈ r, 0 ≤ n) (no : ∀ n ∈ o, 0 ≤ n) (hh : hold r r.length = [(p : Int), (q : Int)]) (c : Cl r o) : pairB r o = true ↔ Pr (r.getD p 0).toNat (r.getD q 0).toNat (o.getD p 0).toNat (o.getD q 0).toNat := by
  rw [pairB_iff l nr no (by rw [hh]; rfl) c.sum c.hf]
  have hz := hold_zip (r := r) (o := o) l
  rw [hh] at hz
  rw [PH_iff hz.symm fun z h => nr _ (List.of_mem_zip h).1]
  simp only [Int.toNat_natCast]
theorem brkF_nil {r o : List Int} : brkF r o = [] ↔ r = o ∨ (r.length = o.length ∧ clausesOf r o = [] ∧ (3 ≤ (hold r r.length).length ∨ pairB r o = true)) := by
  unfold brkF
  by_cases h1 : r = o
  · rw [if_pos h1]; exact ⟨fun _ => .inl h1, fun _ => rfl⟩
  · rw [if_neg h1]
    by_cases h2 : r.length = o.length
    · rw [if_neg (fun z => z h2)]
      by_cases h3 : clausesOf r o = []
      · by_cases h4 : 3 ≤ (hold r r.length).length
        · rw [if_pos (.inr h4)]
          exact ⟨fun _ => .inr ⟨h2, h3, .inl h4⟩, fun _ => h3⟩
        · rw [if_neg (fun z => z.elim (fun y => y h3) h4)]
          by_cases h5 : pairB r o = true
          · rw [if_pos h5]; exact ⟨fun _ => .inr ⟨h2, h3, .inr h5⟩, fun _ => rfl⟩
          · rw [if_neg h5]
            exact ⟨(fun z => nomatch z), fun z => (z.elim h1 fun y => (y.2.2.elim h4 h5)).elim⟩
      · rw [if_pos (.inl h3)]
        exact ⟨fun z => absurd z h3, fun z => (z.elim h1 fun y => h3 y.2.1).elim⟩
    · rw [if_pos h2]
      exact ⟨(fun z => nomatch z), fun z => (z.elim h1 fun y => h2 y.1).elim⟩
theorem hold_eq {r m : List Int} (l : r.length = m.length) (h : ∀ p, p < r.length → (0 < r.getD p 0 ↔ 0 < m.getD p 0)) : hold m m.length = hold r r.length := by
  unfold hold
  rw [← l]
  congr 1
  refine List.filter_congr fun j hj => ?_
  exact dec_iff (h j (List.mem_range.mp hj)).symm
theorem pair_sum {r o : List Int} {p q : Nat} (l : r.length = o.length) (nr : ∀ n ∈ r, 0 ≤ n) (no : ∀ n ∈ o, 0 ≤ n) (hh : hold r r.length = [(p : Int), (q : Int)]) (z : ∀ j, r.getD j 0 = 0 → o.getD j 0 = 0) : o.sum = o.getD p 0 + o.getD q 0 := by
  have hz := hold_zip (r := r) (o := o) l
  rw [hh] at hz
  have pm := List.filter_append_perm (fun z : Int × Int => decide (0 < z.1)) (r.zip o)
  rw [← hz] at pm
  have s2 := perm_sumV (pm.map Prod.snd)
  rw [zipS l, List.map_append, List.sum_append, sum_zero (l := ((r.zip o).filter fun z => !decide (0 < z.1)).map Prod.snd) (fun n hn => by
    obtain ⟨y, hy, rfl⟩ := List.mem_map.mp hn
    obtain ⟨h1, h2⟩ := List.mem_filter.mp hy
    rw [← zip_range l] at h1
    obtain ⟨j, hj, rfl⟩ := List.mem_map.mp h1
    simp only [Bool.not_eq_true', decide_eq_false_iff_not] at h2
    have hj' := List.mem_range.mp hj
    have := nr _ (List.getElem_mem hj')
    rw [← getD_eq hj'] at this
    exact z j (by omega))] at s2
  have t2 : o.getD ((p : Int)).toNat 0 + (o.getD ((q : Int)).toNat 0 + 0) + 0 = o.sum := s2
  rw [Int.toNat_natCast, Int.toNat_natCast] at t2
  omega
/-- what comes of what comes -/
theorem brk_trans {r m o : List Int} (nr : ∀ n ∈ r, 0 ≤ n) (nm : ∀ n ∈ m, 0 ≤ n) (no : ∀ n ∈ o, 0 ≤ n) (h1 : brkF r m = []) (h2 : brkF m o = []) : brkF r o = [] := by
  rcases brkF_nil.mp h1 with rfl | ⟨l1, c1, a1⟩
  · exact h2
  rcases brkF_nil.mp h2 with rfl | ⟨l2, c2, a2⟩
  · exact h1
  by_cases hmo : m = o
  · rw [← hmo]; exact h1
  have k1 := cl_iff.mp c1
  have k2 := cl_iff.mp c2
  have k := k1.trans l1 l2 nm no k2
  refine brkF_nil.mpr (.inr ⟨l1.trans l2, cl_iff.mpr k, ?_⟩)
  by_cases h3 : 3 ≤ (hold r r.length).length
  · exact .inl h3
  refine .inr ?_
  have b1 := a1.resolve_left h3
  by_cases h22 : (hold r r.length).length = 2
  · obtain ⟨i, j, hij⟩ : ∃ i j, hold r r.length = [i, j] := by
      match hold r r.length, h22 with
      | [i, j], _ => exact ⟨i, j, rfl⟩
    obtain ⟨p, q, rfl, rfl, hp, hq, hne, p0, q0⟩ := hold_two hij
    have z1 : ∀ j, r.getD j 0 = 0 → m.getD j 0 = 0 := hfn_pos l1 nm k1.hf
    have z2 : ∀ j, m.getD j 0 = 0 → o.getD j 0 = 0 := hfn_pos l2 no k2.hf
    have sm := pair_sum l1 nr nm hij z1
    have so := pair_sum (l1.trans l2) nr no hij fun j h => z2 j (z1 j h)
    have rest : ∀ j, j ≠ p → j ≠ q → r.getD j 0 = 0 := fun t tp tq => by
      apply Classical.byContradiction
      intro hz
      by_cases ht : t < r.length
      · have t0 : 0 ≤ r.getD t 0 := by rw [getD_eq ht]; exact nr _ (List.getElem_mem _)
        have := hold_mem ht (by omega)
        rw [hij] at this
        simp only [List.mem_cons, List.not_mem_nil, or_false] at this
        omega
      · exact hz (by rw [List.getD_eq_getElem?_getD, List.getElem?_eq_none (by omega)]; rfl)
    have nnm : ∀ j, 0 ≤ m.getD j 0 := fun t => by
      by_cases ht : t < m.length
      · rw [getD_eq ht]; exact nm _ (List.getElem_mem _)
      · rw [List.getD_eq_getElem?_getD, List.getElem?_eq_none (by omega)]; exact Int.le_refl _
    have nno : ∀ j, 0 ≤ o.getD j 0 := fun t => by
      by_cases ht : t < o.length
      · rw [getD_eq ht]; exact no _ (List.getElem_mem _)
      · rw [List.getD_eq_getElem?_getD, List.getElem?_eq_none (by omega)]; exact Int.le_refl _
    have hs := k2.sum
    have mp := nnm p
    have mq := nnm q
    have ext : m.getD p 0 = o.getD p 0 → m.getD q 0 = o.getD q 0 → False := fun e1 e2 => hmo (List.ext_getElem l2 fun t h1 h2 => by
      rw [← getD_eq h1, ← getD_eq h2]
      by_cases tp : t = p
      · rw [tp]; exact e1
      · by_cases tq : t = q
        · rw [tq]; exact e2
        · rw [z1 t (rest t tp tq), z2 t (z1 t (rest t tp tq))])
    by_cases m1 : m.getD p 0 = 0
    · exact (ext (by rw [m1, z2 p m1]) (by have := z2 p m1; omega)).elim
    by_cases m2 : m.getD q 0 = 0
    · exact (ext (by have := z2 q m2; omega) (by rw [m2, z2 q m2])).elim
    have hm : hold m m.length = [(p : Int), (q : Int)] := by
      rw [hold_eq l1 fun t ht => ?_, hij]
      by_cases tp : t = p
      · rw [tp]; omega
      · by_cases tq : t = q
        · rw [tq]; omega
        · have e1 := rest t tp tq
          have e2 := z1 t e1
          omega
    have b2 : pairB m o = true := a2.resolve_left (by rw [hm]; exact fun (z : 3 ≤ 2) => absurd z (by decide))
    have P1 := (pairB_pos l1 nr nm hij k1).mp b1
    have P2 := (pairB_pos l2 nm no hm k2).mp b2
    exact (pairB_pos (l1.trans l2) nr no hij k).mpr (P1.trans P2)
  · unfold pairB
    match hh : hold r r.length with
    | [] => rfl
    | [_] => rfl
    | [_, _] => rw [hh] at h22; exact absurd rfl h22
    | _ :: _ :: _ :: _ => rfl
end MG

/-! MG: broken of alike rows, of rows many times, of deeds -/
namespace MG
open PySem PySem.Spec PyProof.Rows L2
theorem pairB_few {r o : List Int} (h : (hold r r.length).length ≠ 2) : pairB r o = true := by
  unfold pairB
  match hh : hold r r.length with
  | [] => rfl
  | [_] => rfl
  | [_, _] => rw [hh] at h; exact absurd rfl h
  | _ :: _ :: _ :: _ => rfl
theorem brk_deed {r : List Int} {i j : Nat} (h : MayG r i j) (nr : ∀ n ∈ r, 0 ≤ n) : brkF r (deed r i j) = [] := by
  have lv := deed_lv h nr
  have c := lv.clauses
  have nd := deed_nn h nr
  refine brkF_nil.mpr (.inr ⟨lv.len.symm, c, ?_⟩)
  by_cases h3 : 3 ≤ (hold r r.length).length
  · exact .inl h3
  refine .inr ?_
  by_cases h2 : (hold r r.length).length = 2
  · obtain ⟨x, y, hij⟩ : ∃ i j, hold r r.length = [i, j] := by
      match hold r r.length, h2 with
      | [i, j], _ => exact ⟨i, j, rfl⟩
    obtain ⟨p, q, rfl, rfl, hp, hq, hne, p0, q0⟩ := hold_two hij
    have pi := h.pj
    have ge := h.ge
    have mi := hold_mem h.hi (by omega)
    have mj := hold_mem h.hj pi
    rw [hij] at mi mj
    simp only [List.mem_cons, List.not_mem_nil, or_false] at mi mj
    have hne' := h.ne
    have di : (deed r i j).getD i 0 = r.getD i 0 - r.getD j 0 := by
      unfold deed
      rw [getD_set (by rw [List.length_set]; exact h.hj), if_neg (fun z => hne' z.symm), getD_set h.hi, if_pos rfl]
    have dj : (deed r i j).getD j 0 = 2 * r.getD j 0 := by
      unfold deed
      rw [getD_set (by rw [List.length_set]; exact h.hj), if_pos rfl]
    rw [pairB_pos lv.len.symm nr nd hij (cl_iff.mp c)]
    rcases (show (p = i ∧ q = j) ∨ (p = j ∧ q = i) by omega) with ⟨rfl, rfl⟩ | ⟨rfl, rfl⟩
    · rw [di, dj]
      have := Pr.deed (p := (r.getD p 0).toNat) (q := (r.getD q 0).toNat) (by omega)
      rw [show (r.getD p 0 - r.getD q 0).toNat = (r.getD p 0).toNat - (r.getD q 0).toNat by omega, show (2 * r.getD q 0).toNat = 2 * (r.getD q 0).toNat by omega]
      exact this
    · rw [di, dj]
      have := Pr.deed' (p := (r.getD p 0).toNat) (q := (r.getD q 0).toNat) (by omega)
      rw [show (r.getD q 0 - r.getD p 0).toNat = (r.getD q 0).toNat - (r.getD p 0).toNat by omega, show (2 * r.getD p 0).toNat = 2 * (r.getD p 0).toNat by omega]
      exact this
  · exact pairB_few h2
/-! ### rows laid in an order, with a nothing -/
end MG

/-! MG: wishes -/
namespace MG
open PySem PySem.Spec PyProof.Rows L2
/-- the wishes as a row, 0 for none -/
def wA (ws : List (Option Int)) : List Int := ws.map fun w => w.getD 0
def isFr (r : List Int) (ws : List (Option Int)) (j : Nat) : Bool := (ws.getD j (some 0)).isNone && decide (0 < r.getD j 0)
/-- the places that are free -/
def free (r : List Int) (ws : List (Option Int)) (i : Nat) : List Int := ((List.range i).filter (isFr r ws)).map fun (j : Nat) => (j : Int)
def Meets (ws : List (Option Int)) (o : List Int) : Prop := o.length = ws.length ∧ ∀ (p : Nat) (v : Int), ws[p]? = some (some v) → o[p]? = some v
def fillF (r : List Int) (ws : List (Option Int)) : Option (List Int) :=
  if r.sum - (wA ws).sum < 0 ∨ (0 < r.sum - (wA ws).sum ∧ free r ws ws.length = []) then none
  else if 1 < (free r ws ws.length).length ∧ 2 * (gl r : Int) < r.sum - (wA ws).sum then
    some (((wA ws).set ((free r ws ws.length).getLastD 0).toNat (2 * (gl r : Int))).set ((free r ws ws.length).headD 0).toNat (r.sum - (wA ws).sum - 2 * (gl r : Int)))
  else if free r ws ws.length = [] then some (wA ws) else some ((wA ws).set ((free r ws ws.length).headD 0).toNat (r.sum - (wA ws).sum))
def wishF (r : List Int) (ws : List (Option Int)) : Option (List Int) :=
  match fillF r ws with
  | some o => if brkT r o = [] then some o else none
  | none => none
/-- what is beside the wishes -/
def restW : List (Option Int) → List Int → List Int
  | none :: ws, n :: o => n :: restW ws o
  | some _ :: ws, _ :: o => 0 :: restW ws o
  | _, _ => []
/-- what is known of a row that comes -/
structure Knows (r o : List Int) : Prop where
  len : o.length = r.length
  sum : o.sum = r.sum
  noth : ∀ p, r.getD p 0 = 0 → o.getD p 0 = 0
  dv : ∀ n ∈ o, (gl r : Int) ∣ n
  odd : (o.map (oddF (v2 (gl r)))).sum ≤ (r.map (oddF (v2 (gl r)))).sum
end MG

/-! MG: wishes filled -/
namespace MG
open PySem PySem.Spec PyProof.Rows L2
def wV : Option Int → V
  | none => .non
  | some v => .int v
/-- the forms in which wishes are filled -/
inductive Fill (r : List Int) (ws : List (Option Int)) : List Int → Prop
  | none (h : free r ws ws.length = []) (hs : r.sum = (wA ws).sum) : Fill r ws (wA ws)
  | one (p : Nat) (h : ws[p]? = some Option.none) (h0 : 0 < r.getD p 0) (hl : 0 ≤ r.sum - (wA ws).sum) (hh : (free r ws ws.length).headD 0 = p)
      (hk : (free r ws ws.length).length ≤ 1 ∨ r.sum - (wA ws).sum ≤ 2 * (gl r : Int)) : Fill r ws ((wA ws).set p (r.sum - (wA ws).sum))
  | two (p q : Nat) (hp : ws[p]? = some Option.none) (hq : ws[q]? = some Option.none) (hp0 : 0 < r.getD p 0) (hq0 : 0 < r.getD q 0) (hne : p ≠ q) (hl : 2 * (gl r : Int) < r.sum - (wA ws).sum) :
      Fill r ws (((wA ws).set q (2 * (gl r : Int))).set p (r.sum - (wA ws).sum - 2 * (gl r : Int)))
end MG

namespace K70
open PySem PySem.Spec PyProof.Rows L2 MG
abbrev sHolders : Stmt := topS 12
abbrev sHfn : Stmt := topS 18
abbrev sAsked : Stmt := topS 19
abbrev sBroken : Stmt := topS 21
abbrev nBroken : List Str := ["row", "other", "clauses", "clause", "is_broken"]
theorem scHolders : FnScope ["row", "place", "amount"] ["row"] (defScope sHolders) := ⟨rfl, rfl, rfl, by decide +kernel, rfl, by decide +kernel, by decide +kernel⟩
theorem scHfn : FnScope ["row", "other", "before", "behind"] ["row", "other"] (defScope sHfn) := ⟨rfl, rfl, rfl, by decide +kernel, rfl, by decide +kernel, by decide +kernel⟩
theorem scAsked : FnScope ["row", "other", "as_many_twos"] ["row", "other"] (defScope sAsked) := ⟨rfl, rfl, rfl, by decide +kernel, rfl, by decide +kernel, by decide +kernel⟩
theorem scBroken : FnScope ["row", "other", "clauses", "clause", "is_broken"] ["row", "other"] (defScope sBroken) := ⟨rfl, rfl, rfl, by decide +kernel, rfl, by decide +kernel, by decide +kernel⟩
section
variable {P : Program} {w : World} {K : PySem.W.Frag} {mg : Str → Option Value} {base : Heap}
def spHolders : Sp := fun vs H Q _ => ∃ a ns, vs = [.ref a] ∧ H a = some (.tup (ns.map V.int)) ∧ ns.length ≤ 40 ∧
  ∀ H' p, Same H H' → H' p = some (.tup ((hold ns ns.length).map V.int)) → Q (.ref p) H'
theorem ok_holders {f : Addr} {fd : FuncData} {k : Nat} (F : Fun K "holders" "holders" sHolders f fd) (mT : mg "tuple" = none) (mE : mg "enumerate" = none) :
    FnOk P w K mg base CX0 (k + 1) f fd ["row"] spHolders := by
  refine F.ok scHolders (fun vs H Q E h => ?_) (fun cdv A outer s H vs Q E hr h => ?_)
  · obtain ⟨a, ns, rfl, _⟩ := h
    rfl
  · obtain ⟨a, ns, rfl, e, hl, q⟩ := h
    refine ⟨_, pss_one (ps_ret (pe_callTy call_tuple_of (by rfl) mT (by decide +kernel) (pa_cons
      (pe_lc (own := [("place", 1), ("amount", 2)]) (g := gTup K 2 (gCons (gName 1) (gCons (gName 2) gNil))) rfl scHolders.nd (pi_enumT (by rfl) mE (pa_cons (pv 0) pa_nil))
        (blkOk_by (N := ["row", "place", "amount"]) (sc := defScope sHolders) (by decide +kernel))
        (fun _ _ _ _ _ => pg_tup rfl (pgs_cons (pg_name (i := 1) scHolders.nd rfl (.inl rfl) (.inr rfl)) (pgs_cons (pg_name (i := 2) scHolders.nd rfl (.inl rfl) (.inr rfl)) pgs_nil)))
        (fun _ _ _ _ _ => pts_one (pt_cmpR op_gt (pv 2) pe_int (nomark _)))
        (fun _ _ _ _ _ => pv 1)) pa_nil))), ?_⟩
    have hS : SqT K H a (ns.map V.int) := SqT.of e
    refine ⟨.ref a, rfl, a, ns.map V.int, rfl, hS, fun D nD => ?_⟩
    refine lc_it (walk_enumT (K := K) (a := a) (xs := ns.map V.int)) (fun i H' => Same H H' ∧ H' D = some (.lst ((hold ns i).map V.int))) ⟨same_upd nD, upd_same⟩ ?_ ?_ ?_
    · intro i H' _ h
      exact SqT.of (h.1 _ _ e)
    · rintro i x H' H'' hi ⟨sm, hD⟩ ⟨T, x1, x2, rfl, nT, rfl, e1, e2⟩
      rw [List.length_map] at hi
      have e1' : x1 = .int (i : Nat) := (Option.some.inj e1).symm
      have e2' : x2 = .int ns[i] := by
        have z : (ns.map V.int)[i]? = some x2 := e2
        rw [List.getElem?_map, List.getElem?_eq_getElem hi] at z
        exact (Option.some.inj z).symm
      subst e1' e2'
      have smT : Same H' (upd H' T (.tup [.int (i : Nat), .int ns[i]])) := same_upd nT
      have hg : ns.getD i 0 = ns[i] := by rw [List.getD_eq_getElem?_getD, List.getElem?_eq_getElem hi]; rfl
      refine ⟨T, [.int (i : Nat), .int ns[i]], rfl, .inl (.inl upd_same), rfl, .int (i : Nat), [.int ns[i]], rfl, .int ns[i], [], rfl, rfl, rfl, _, rfl, ns[i], 0, rfl, rfl, _, rfl, ?_⟩
      refine ite2 (fun hp => ?_) (fun hp => ?_)
      · have hp' : 0 < ns[i] := of_decide_eq_true hp
        refine ⟨.int (i : Nat), rfl, _, smT _ _ hD, ?_, ?_, ?_⟩
        · rw [List.length_map]
          exact small1000 (Nat.le_trans (hold_len ns i) (by omega))
        · intro c o hc
          rw [upd_ne (ne_of_none hc nD)]
          exact smT _ _ (sm c o hc)
        · rw [upd_same, hold_succ, hg, if_pos hp', List.map_append]
          rfl
      · have hp' : ¬ 0 < ns[i] := fun z => hp (decide_eq_true z)
        refine ⟨sm.trans smT, ?_⟩
        rw [hold_succ, hg, if_neg hp', List.append_nil]
        exact smT _ _ hD
    · rintro H' ⟨sm, hD⟩
      rw [List.length_map] at hD
      refine ⟨D, _, rfl, .inl ⟨.inl (.inl hD), fun p np => ?_⟩⟩
      exact q _ p (sm.trans (same_upd np)) upd_same

def hfnL (r o : List Int) : List Bool := (r.zip o).map fun p => decide (p.1 = 0) && decide (p.2 > 0)
def spHfn : Sp := fun vs H Q _ => ∃ a b r o, vs = [.ref a, .ref b] ∧ H a = some (.tup (List.map V.int r)) ∧ H b = some (.tup (List.map V.int o)) ∧ r.length = o.length ∧ r.length ≤ 40 ∧ ∀ H', Same H H' → Q (.bl (hfn r o)) H'
theorem ok_hfn {f : Addr} {fd : FuncData} {k : Nat} (F : Fun K "has_from_nothing" "has_from_nothing" sHfn f fd) (mA : mg "any" = none) (mZ : mg "zip" = none) :
    FnOk P w K mg base CX0 (k + 1) f fd ["row", "other"] spHfn := by
  refine F.ok scHfn (fun vs H Q E h => ?_) (fun cdv A outer s H vs Q E hr h => ?_)
  · obtain ⟨a, b, r, o, rfl, _⟩ := h
    rfl
  · obtain ⟨a, b, r, o, rfl, ea, eb, hl, hn, q⟩ := h
    refine ⟨_, pss_one (ps_ret (pe_callB (cr_any rfl) (by rfl) mA (by decide +kernel) (pa_cons
      (pe_lc (own := [("before", 2), ("behind", 3)]) (g := gTup K 2 (gCons (gName 2) (gCons (gName 3) gNil))) (tt := tYes) rfl scHfn.nd (RZ.pi_zipA (by rfl) mZ (pa_cons (pv 0) (pa_cons (pv 1) pa_nil)))
        (blkOk_by (N := ["row", "other", "before", "behind"]) (sc := defScope sHfn) (by decide +kernel))
        (fun _ _ _ _ _ => pg_tup rfl (pgs_cons (pg_name (i := 2) scHfn.nd rfl (.inl rfl) (.inr rfl)) (pgs_cons (pg_name (i := 3) scHfn.nd rfl (.inl rfl) (.inr rfl)) pgs_nil)))
        (fun _ _ _ _ _ => pts_nil)
        (fun _ _ _ _ _ => pe_and (pe_cmpR op_eq (pv 2) pe_int (nomark _)) (pe_one (pe_cmpR op_gt (pv 3) pe_int (nomark _))))) pa_nil))), ?_⟩
    refine ⟨_, rfl, _, rfl, a, b, _, _, rfl, .inr ⟨SqT.of ea, SqT.of eb, fun D nD => ?_⟩⟩
    refine lc_it (walk_zipT (K := K) (a := a) (b := b) (xs := r.map V.int) (ys := o.map V.int) (n := r.length) (by rw [List.length_map, List.length_map]; omega)) (fun i H' => Same H H' ∧ H' D = some (.lst (((hfnL r o).take i).map V.bl))) ⟨same_upd nD, upd_same⟩ ?_ ?_ ?_
    · intro i H' _ h
      exact ⟨SqT.of (h.1 _ _ ea), SqT.of (h.1 _ _ eb)⟩
    · rintro i x H' H'' hi ⟨sm, hD⟩ ⟨T, x1, x2, rfl, nT, rfl, e1, e2⟩
      have hi2 : i < o.length := by omega
      have e1' : x1 = .int r[i] := by
        have z : (r.map V.int)[i]? = some x1 := e1
        rw [List.getElem?_map, List.getElem?_eq_getElem hi] at z
        exact (Option.some.inj z).symm
      have e2' : x2 = .int o[i] := by
        have z : (o.map V.int)[i]? = some x2 := e2
        rw [List.getElem?_map, List.getElem?_eq_getElem hi2] at z
        exact (Option.some.inj z).symm
      subst e1' e2'
      have smT : Same H' (upd H' T (.tup [.int r[i], .int o[i]])) := same_upd nT
      have hz : (hfnL r o)[i]? = some (decide (r[i] = 0) && decide (o[i] > 0)) := by
        unfold hfnL
        rw [List.getElem?_map, (List.getElem?_zip_eq_some (z := (r[i], o[i]))).mpr ⟨List.getElem?_eq_getElem hi, List.getElem?_eq_getElem hi2⟩]
        rfl
      have fin : ∀ y, y = (decide (r[i] = 0) && decide (o[i] > 0)) → ∃ acc, upd H' T (.tup [.int r[i], .int o[i]]) D = some (.lst acc) ∧ acc.length < sizeLine ∧ Same H (upd (upd H' T (.tup [.int r[i], .int o[i]])) D (.lst (acc ++ [V.bl y]))) ∧ upd (upd H' T (.tup [.int r[i], .int o[i]])) D (.lst (acc ++ [V.bl y])) D = some (.lst (((hfnL r o).take (i + 1)).map V.bl)) := fun y hy => by
        refine ⟨_, smT _ _ hD, ?_, ?_, ?_⟩
        · rw [List.length_map, List.length_take]
          exact small1000 (by omega)
        · intro c o hc
          rw [upd_ne (ne_of_none hc nD)]
          exact smT _ _ (sm c o hc)
        · rw [upd_same, List.take_add_one, hz, List.map_append, hy]
          rfl
      refine ⟨T, [.int r[i], .int o[i]], rfl, .inl (.inl upd_same), rfl, .int r[i], [.int o[i]], rfl, .int o[i], [], rfl, rfl, rfl, ?_⟩
      refine ⟨_, rfl, rfl, _, rfl, ?_⟩
      have ez : decide (V.int r[i] = V.int 0) = decide (r[i] = 0) := by
        by_cases z : r[i] = 0
        · rw [z]; rfl
        · rw [decide_eq_false z, decide_eq_false (fun y => z (V.int.inj y))]
      rw [ez]
      refine ite2 (fun hp => ?_) (fun hp => ?_)
      · refine ⟨_, rfl, _, 0, rfl, rfl, ?_⟩
        exact fin _ (by rw [hp]; rfl)
      · have hp' : decide (r[i] = 0) = false := by cases h : decide (r[i] = 0) <;> first | rfl | exact absurd h hp
        exact fin _ (by rw [hp']; rfl)
    · rintro H' ⟨sm, hD⟩
      have hlen : (hfnL r o).length = r.length := by
        unfold hfnL
        rw [List.length_map, List.length_zip]; omega
      rw [← hlen, List.take_length] at hD
      refine ⟨D, hfnL r o, rfl, SqL.of hD, ?_⟩
      have e : (hfnL r o).any id = hfn r o := by
        unfold hfnL hfn
        rw [List.any_map]
        rfl
      rw [e]
      exact q H' sm
end
end K70

namespace K70
open PySem PySem.Spec PyProof.Rows L2 MG
theorem decV (x y : Int) : decide (V.int x = V.int y) = decide (x = y) := by
  by_cases h : x = y
  · rw [h]; simp
  · rw [decide_eq_false h, decide_eq_false (fun z => h (V.int.inj z))]
theorem decN (a b : Nat) : decide ((a : Int) = (b : Int)) = decide (a = b) := by
  by_cases h : a = b
  · rw [h]; simp
  · rw [decide_eq_false h, decide_eq_false (fun z => h (by omega))]
theorem decL (a b : Nat) : decide ((a : Int) < (b : Int)) = decide (a < b) := by
  by_cases h : a < b
  · rw [decide_eq_true h, decide_eq_true (show (a : Int) < b by omega)]
  · rw [decide_eq_false h, decide_eq_false (show ¬ (a : Int) < b by omega)]
theorem notD (p : Prop) [Decidable p] : (!decide p) = decide (¬ p) := by
  by_cases h : p
  · rw [decide_eq_true h, decide_eq_false (fun z => z h)]; rfl
  · rw [decide_eq_false h, decide_eq_true h]; rfl
section
variable {P : Program} {w : World} {K : PySem.W.Frag} {mg : Str → Option Value} {base : Heap}
def spAsked : Sp := fun vs H Q _ => ∃ a b r o, vs = [.ref a, .ref b] ∧ Row H a r ∧ Row H b o ∧ r.length = o.length ∧ ∀ H' p ts, Same H H' → H' p = some (.tup (ts.map V.ref)) → PairsAt H' ts (asked r o) → Q (.ref p) H'
theorem ok_asked {f fT fN fM fO fH : Addr} {fd fdT fdN fdM fdO fdH : FuncData} {k : Nat} (F : Fun K "asked_of_any" "asked_of_any" sAsked f fd)
    (FT : Fun K "twos" "twos" sTwos fT fdT) (bT : Binds K fdT ["row"] []) (gT : mg "twos" = some (.ref fT)) (GT : FnOk P w K mg base CX0 (k + 3) fT fdT ["row"] spTwos)
    (FN : Fun K "has_from_nothing" "has_from_nothing" sHfn fN fdN) (bN : Binds K fdN ["row", "other"] []) (gN : mg "has_from_nothing" = some (.ref fN)) (GN : FnOk P w K mg base CX0 (k + 1) fN fdN ["row", "other"] spHfn)
    (FM : Fun K "measure" "measure" sMeasure fM fdM) (bM : Binds K fdM ["row"] []) (gM : mg "measure" = some (.ref fM)) (GM : FnOk P w K mg base CX0 (k + 3) fM fdM ["row"] spMeasure)
    (FO : Fun K "odd_ones" "odd_ones" sOddOnes fO fdO) (bO : Binds K fdO ["row"] []) (gO : mg "odd_ones" = some (.ref fO)) (GO : FnOk P w K mg base CX0 (k + 4) fO fdO ["row"] spOddOnes)
    (FH : Fun K "holders" "holders" sHolders fH fdH) (bH : Binds K fdH ["row"] []) (gH : mg "holders" = some (.ref fH)) (GH : FnOk P w K mg base CX0 (k + 1) fH fdH ["row"] spHolders)
    (mS : mg "sum" = none) (ml : mg "len" = none) : FnOk P w K mg base CX0 (k + 5) f fd ["row", "other"] spAsked := by
  refine F.ok scAsked (fun vs H Q E h => ?_) (fun cdv A outer s H vs Q E hr h => ?_)
  · obtain ⟨a, b, r, o, rfl, _⟩ := h
    rfl
  · obtain ⟨a, b, r, o, rfl, ra, rb, hl, q⟩ := h
    have hr1 := hr.mono (show k + 1 ≤ k + 4 by omega)
    have hr3 := hr.mono (show k + 3 ≤ k + 4 by omega)
    refine ⟨_, pss_cons (ps_set (i := 2) scAsked.nd rfl (.inl rfl) (pe_cmpR op_eq (pe_call GT hr3 (by rfl) gT FT.kp bT .nil pass0 (pa_cons (pv 1) pa_nil)) (pe_call GT hr3 (by rfl) gT FT.kp bT .nil pass0 (pa_cons (pv 0) pa_nil)) (nomark _)))
      (pss_one (ps_ret (pe_tup (pa_cons
        (pe_tup (pa_cons pe_str (pa_cons (pe_cmpR op_ne (pe_callB (sumT rfl) (by rfl) mS (by decide +kernel) (pa_cons (pv 1) pa_nil)) (pe_callB (sumT rfl) (by rfl) mS (by decide +kernel) (pa_cons (pv 0) pa_nil)) (nomark _)) pa_nil))) (pa_cons
        (pe_tup (pa_cons pe_str (pa_cons (pe_call GN hr1 (by rfl) gN FN.kp bN .nil pass0 (pa_cons (pv 0) (pa_cons (pv 1) pa_nil))) pa_nil))) (pa_cons
        (pe_tup (pa_cons pe_str (pa_cons (pe_cmpR op_ne (pe_call GM hr3 (by rfl) gM FM.kp bM .nil pass0 (pa_cons (pv 1) pa_nil)) (pe_call GM hr3 (by rfl) gM FM.kp bM .nil pass0 (pa_cons (pv 0) pa_nil)) (nomark _)) pa_nil))) (pa_cons
        (pe_tup (pa_cons pe_str (pa_cons (pe_cmpR op_lt (pe_call GT hr3 (by rfl) gT FT.kp bT .nil pass0 (pa_cons (pv 1) pa_nil)) (pe_call GT hr3 (by rfl) gT FT.kp bT .nil pass0 (pa_cons (pv 0) pa_nil)) (nomark _)) pa_nil))) (pa_cons
        (pe_tup (pa_cons pe_str (pa_cons (pe_and (pv 2) (pe_one (pe_cmpR op_gt (pe_call GO hr (by rfl) gO FO.kp bO .nil pass0 (pa_cons (pv 1) pa_nil)) (pe_call GO hr (by rfl) gO FO.kp bO .nil pass0 (pa_cons (pv 0) pa_nil)) (nomark _)))) pa_nil))) (pa_cons
        (pe_tup (pa_cons pe_str (pa_cons (pe_and (pv 2) (pe_one (pe_cmpR op_eq (pe_call GO hr (by rfl) gO FO.kp bO .nil pass0 (pa_cons (pv 1) pa_nil))
          (pe_callB call_len_seq (by rfl) ml PySem.boot_len (pa_cons (pe_call GH hr1 (by rfl) gH FH.kp bH .nil pass0 (pa_cons (pv 1) pa_nil)) pa_nil)) (nomark _)))) pa_nil))) pa_nil))))))))), ?_⟩
    refine ⟨_, rfl, b, o, rfl, rb, _, rfl, a, r, rfl, ra, rfl, ?_⟩
    rw [decV, decN]
    refine ⟨_, rfl, b, o, rfl, SqT.of rb.1, _, rfl, a, r, rfl, SqT.of ra.1, rfl, by show 2 ≤ sizeLine; decide, fun t1 n1 => ?_⟩
    rw [decV, notD]
    have s1 : Same H (upd H t1 (.tup [.str "sum", .bl (decide (¬ o.sum = r.sum))])) := same_upd n1
    have e1 : upd H t1 (.tup [.str "sum", .bl (decide (¬ o.sum = r.sum))]) t1 = some (.tup [.str "sum", .bl (decide (¬ o.sum = r.sum))]) := upd_same
    generalize upd H t1 (HO.tup [.str "sum", .bl (decide (¬ o.sum = r.sum))]) = H1 at s1 e1 ⊢
    have ra1 := ra.same s1
    have rb1 := rb.same s1
    refine ⟨_, rfl, _, rfl, a, b, r, o, rfl, ra1.1, rb1.1, hl, ra.2.2.1, fun G2 sG2 => ⟨by show 2 ≤ sizeLine; decide, fun t2 n2 => ?_⟩⟩
    have s2 : Same H1 (upd G2 t2 (.tup [.str "nothing", .bl (hfn r o)])) := sG2.trans (same_upd n2)
    have e2 : upd G2 t2 (.tup [.str "nothing", .bl (hfn r o)]) t2 = some (.tup [.str "nothing", .bl (hfn r o)]) := upd_same
    generalize upd G2 t2 (HO.tup [.str "nothing", .bl (hfn r o)]) = H2 at s2 e2 ⊢
    have ra2 := ra1.same s2
    have rb2 := rb1.same s2
    refine ⟨_, rfl, b, o, rfl, rb2, _, rfl, a, r, rfl, ra2, rfl, by show 2 ≤ sizeLine; decide, fun t3 n3 => ?_⟩
    rw [decV, notD]
    have s3 : Same H2 (upd H2 t3 (.tup [.str "measure", .bl (decide (¬ ms o = ms r))])) := same_upd n3
    have e3 : upd H2 t3 (.tup [.str "measure", .bl (decide (¬ ms o = ms r))]) t3 = some (.tup [.str "measure", .bl (decide (¬ ms o = ms r))]) := upd_same
    show tCons _ _ _ (upd H2 t3 (.tup [.str "measure", .bl (decide (¬ ms o = ms r))])) _
    generalize upd H2 t3 (HO.tup [.str "measure", .bl (decide (¬ ms o = ms r))]) = H3 at s3 e3 ⊢
    have ra3 := ra2.same s3
    have rb3 := rb2.same s3
    refine ⟨_, rfl, b, o, rfl, rb3, _, rfl, a, r, rfl, ra3, _, _, rfl, rfl, by show 2 ≤ sizeLine; decide, fun t4 n4 => ?_⟩
    dsimp only
    rw [decL]
    have s4 : Same H3 (upd H3 t4 (.tup [.str "twos", .bl (decide (v2 (gl o) < v2 (gl r)))])) := same_upd n4
    have e4 : upd H3 t4 (.tup [.str "twos", .bl (decide (v2 (gl o) < v2 (gl r)))]) t4 = some (.tup [.str "twos", .bl (decide (v2 (gl o) < v2 (gl r)))]) := upd_same
    generalize upd H3 t4 (HO.tup [.str "twos", .bl (decide (v2 (gl o) < v2 (gl r)))]) = H4 at s4 e4 ⊢
    have ra4 := ra3.same s4
    have rb4 := rb3.same s4
    have S4 := s1.trans (s2.trans (s3.trans s4))
    have fin : ∀ (G : Hp) (t5 t6 p : Addr), Same H4 G → G t5 = some (.tup [.str "odd ones", .bl (decide (v2 (gl o) = v2 (gl r)) && decide (od r < od o))]) →
        G t6 = some (.tup [.str "doubled", .bl (decide (v2 (gl o) = v2 (gl r)) && decide (od o = (hold o o.length).length))]) → G p = some (.tup ([t1, t2, t3, t4, t5, t6].map V.ref)) → Q (.ref p) G := by
      intro G t5 t6 p sG h5 h6 hp
      refine q G p [t1, t2, t3, t4, t5, t6] (S4.trans sG) hp ?_
      exact .cons (sG _ _ (s4 _ _ (s3 _ _ (s2 _ _ e1)))) (.cons (sG _ _ (s4 _ _ (s3 _ _ e2))) (.cons (sG _ _ (s4 _ _ e3)) (.cons (sG _ _ e4) (.cons h5 (.cons h6 .nil)))))
    cases hA : decide (v2 (gl o) = v2 (gl r)) with
    | false =>
      rw [hA] at fin
      refine ⟨_, rfl, _, rfl, iteF ⟨by show 2 ≤ sizeLine; decide, fun t5 n5 => ?_⟩⟩
      refine ⟨_, rfl, _, rfl, iteF ⟨by show 2 ≤ sizeLine; decide, fun t6 n6 => ?_⟩⟩
      refine ⟨by show 6 ≤ sizeLine; decide, fun p np => ?_⟩
      exact fin _ t5 t6 p ((same_upd n5).trans ((same_upd n6).trans (same_upd np))) (same_upd np _ _ (same_upd n6 _ _ upd_same)) (same_upd np _ _ upd_same) upd_same
    | true =>
      rw [hA] at fin
      refine ⟨_, rfl, _, rfl, iteT ⟨_, rfl, b, o, rfl, rb4, fun G5 z5 => ⟨_, rfl, a, r, rfl, ra4.same z5, fun G6 z6 => ?_⟩⟩⟩
      refine ⟨_, _, rfl, rfl, by show 2 ≤ sizeLine; decide, fun t5 n5 => ?_⟩
      have e5' : decide (((fewT (v2 (gl r)) r).length : Int) < ((fewT (v2 (gl o)) o).length : Int)) = decide (od r < od o) := decL _ _
      dsimp only
      rw [e5']
      have s5 : Same H4 (upd G6 t5 (.tup [.str "odd ones", .bl (decide (od r < od o))])) := z5.trans (z6.trans (same_upd n5))
      have e5 : upd G6 t5 (.tup [.str "odd ones", .bl (decide (od r < od o))]) t5 = some (.tup [.str "odd ones", .bl (decide (od r < od o))]) := upd_same
      generalize upd G6 t5 (HO.tup [.str "odd ones", .bl (decide (od r < od o))]) = H5 at s5 e5 ⊢
      have rb5 := rb4.same s5
      refine ⟨_, rfl, _, rfl, iteT ⟨_, rfl, b, o, rfl, rb5, fun G7 z7 => ⟨_, rfl, b, o, rfl, (rb5.same z7).1, rb5.2.2.1, fun G8 ph z8 e8 => ?_⟩⟩⟩
      refine ⟨ph, _, rfl, .inr (SqT.of e8), rfl, by show 2 ≤ sizeLine; decide, fun t6 n6 => ?_⟩
      rw [decV, List.length_map, decN]
      refine ⟨by show 6 ≤ sizeLine; decide, fun p np => ?_⟩
      refine fin _ t5 t6 p (s5.trans (z7.trans (z8.trans ((same_upd n6).trans (same_upd np))))) (same_upd np _ _ (same_upd n6 _ _ (z8 _ _ (z7 _ _ e5)))) (same_upd np _ _ upd_same) upd_same
def spBroken : Sp := fun vs H Q _ => ∃ a b r o, vs = [.ref a, .ref b] ∧ Row H a r ∧ Row H b o ∧ (r = o ∨ 3 ≤ (hold r r.length).length) ∧ ∀ H' p, Same H H' → H' p = some (.tup ((brkT r o).map V.str)) → Q (.ref p) H'
theorem ok_broken {f fA fH : Addr} {fd fdA fdH : FuncData} {k : Nat} (F : Fun K "broken" "broken" sBroken f fd)
    (FA : Fun K "asked_of_any" "asked_of_any" sAsked fA fdA) (bA : Binds K fdA ["row", "other"] []) (gA : mg "asked_of_any" = some (.ref fA)) (GA : FnOk P w K mg base CX0 (k + 5) fA fdA ["row", "other"] spAsked)
    (FH : Fun K "holders" "holders" sHolders fH fdH) (bH : Binds K fdH ["row"] []) (gH : mg "holders" = some (.ref fH)) (GH : FnOk P w K mg base CX0 (k + 1) fH fdH ["row"] spHolders)
    (ml : mg "len" = none) (mT : mg "tuple" = none) : FnOk P w K mg base CX0 (k + 6) f fd ["row", "other"] spBroken := by
  refine F.ok scBroken (fun vs H Q E h => ?_) (fun cdv A outer s H vs Q E hr h => ?_)
  · obtain ⟨a, b, r, o, rfl, _⟩ := h
    rfl
  · obtain ⟨a, b, r, o, rfl, ra, rb, h3, q⟩ := h
    have hr1 := hr.mono (show k + 1 ≤ k + 5 by omega)
    refine ⟨_, pss_cons (ps_if (pt_cmpR (op_eqD hr.units) (pv 0) (pv 1) (nomark _)) (pss_one (ps_ret (pe_tup pa_nil))) pss_nil)
      (pss_cons (ps_if (pt_cmpR op_ne (pe_callB call_len_seq (by rfl) ml PySem.boot_len (pa_cons (pv 0) pa_nil)) (pe_callB call_len_seq (by rfl) ml PySem.boot_len (pa_cons (pv 1) pa_nil)) (nomark _)) (pss_one (ps_ret (pe_tup (pa_cons pe_str pa_nil)))) pss_nil)
      (pss_cons (ps_set (i := 2) scBroken.nd rfl (.inl rfl) (pe_callTy call_tuple_of (by rfl) mT (by decide +kernel) (pa_cons
        (pe_lc (own := [("clause", 3), ("is_broken", 4)]) (g := gTup K 2 (gCons (gName 3) (gCons (gName 4) gNil))) rfl scBroken.nd (pi_tup (pe_call GA hr (by rfl) gA FA.kp bA .nil pass0 (pa_cons (pv 0) (pa_cons (pv 1) pa_nil))))
          (blkOk_by (N := nBroken) (sc := defScope sBroken) (by decide +kernel))
          (fun _ _ _ _ _ => pg_tup rfl (pgs_cons (pg_name (i := 3) scBroken.nd rfl (.inl rfl) (.inr rfl)) (pgs_cons (pg_name (i := 4) scBroken.nd rfl (.inl rfl) (.inr rfl)) pgs_nil)))
          (fun _ _ _ _ _ => pts_one (pt_val (pv 4)))
          (fun _ _ _ _ _ => pv 3)) pa_nil)))
      (pss_cons (ps_if (PW.pt (pw_or (pt_truth (pv 2) (by intro _; rfl)) (pw_or1 (pt_cmpR op_gt (pe_callB call_len_seq (by rfl) ml PySem.boot_len (pa_cons (pe_call GH hr1 (by rfl) gH FH.kp bH .nil pass0 (pa_cons (pv 0) pa_nil)) pa_nil)) pe_int (nomark _))))) (pss_one (ps_ret (pv 2))) pss_nil)
      pss_never))), ?_⟩
    refine ⟨_, rfl, _, rfl, _, _, .tup (SqT.of ra.1) (dpIntsG r), .tup (SqT.of rb.1) (dpIntsG o), shapedT_ints r, shapedT_ints o, _, rfl, ?_⟩
    rw [eqv_rows]
    unfold brkT at q
    refine ite2 (fun he => ?_) (fun he => ?_)
    · have he' := of_decide_eq_true he
      rw [if_pos he'] at q
      exact ⟨by show 0 ≤ sizeLine; decide, fun p np => q _ p (same_upd np) upd_same⟩
    have he' : ¬ r = o := fun z => he (decide_eq_true z)
    have h3 := h3.resolve_left he'
    rw [if_neg he'] at q
    refine ⟨_, rfl, a, _, rfl, .inr (SqT.of ra.1), _, rfl, b, _, rfl, .inr (SqT.of rb.1), rfl, _, rfl, ?_⟩
    rw [List.length_map, List.length_map, decV, decN, notD]
    refine ite2 (fun hn => ?_) (fun hn => ?_)
    · have hn' := of_decide_eq_true hn
      rw [if_pos hn'] at q
      exact ⟨by show 1 ≤ sizeLine; decide, fun p np => q _ p (same_upd np) upd_same⟩
    have hl : r.length = o.length := Decidable.of_not_not fun z => hn (decide_eq_true z)
    rw [if_neg (fun z => z hl)] at q
    refine ⟨_, rfl, _, rfl, a, b, r, o, rfl, ra, rb, hl, fun H1 p1 ts s1 e1 pr => ?_⟩
    refine ⟨p1, rfl, ⟨_, SqT.of e1⟩, fun D nD => ?_⟩
    have prl := pr.1
    refine lc_tup (K := K) (a := p1) (xs := ts.map V.ref) (fun i H' => Same H1 H' ∧ H' D = some (.lst (((((asked r o).take i).filter fun p => p.2).map fun p => p.1).map V.str))) ⟨same_upd nD, upd_same⟩ ?_ ?_ ?_
    · rintro i H' _ ⟨sm, _⟩
      exact SqT.of (sm _ _ e1)
    · rintro i x H' hx ⟨sm, hD⟩
      rw [List.getElem?_map] at hx
      obtain ⟨t, ht, rfl⟩ := Option.map_eq_some_iff.mp hx
      have hi : i < ts.length := (List.getElem?_eq_some_iff.mp ht).1
      have hc : (asked r o)[i]? = some (asked r o)[i] := List.getElem?_eq_getElem (by omega)
      generalize (asked r o)[i] = c at hc
      have et := sm _ _ (pr.2 i t c ht hc)
      refine ⟨t, _, rfl, SqT.of et, rfl, .str c.1, [.bl c.2], rfl, .bl c.2, [], rfl, rfl, rfl, _, rfl, c.2, rfl, ?_⟩
      have e1 : (asked r o).take (i + 1) = (asked r o).take i ++ [c] := by rw [List.take_add_one, hc]; rfl
      cases hb : c.2 with
      | true =>
        refine iteT ⟨_, rfl, _, hD, ?_, ?_, ?_⟩
        · rw [List.length_map, List.length_map]
          refine small1000 (Nat.le_trans (List.length_filter_le _ _) ?_)
          rw [List.length_take]
          have : (asked r o).length = 6 := rfl
          omega
        · intro c o hc
          rw [upd_ne (ne_of_none hc nD)]
          exact sm c o hc
        · rw [upd_same, e1, List.filter_append, List.map_append, List.map_append, List.filter_cons_of_pos (by simpa using hb)]
          rfl
      | false =>
        refine iteF ⟨sm, ?_⟩
        rw [e1, List.filter_append, List.filter_cons_of_neg (by rw [hb]; exact Bool.false_ne_true), List.filter_nil, List.append_nil]
        exact hD
    rintro H2 ⟨s2, hD⟩
    rw [List.length_map, prl, List.take_length] at hD
    refine ⟨D, _, rfl, .inl ⟨SqL.of hD, fun pc npc => ?_⟩⟩
    have s3 : Same H (upd H2 pc (.tup ((clausesOf r o).map V.str))) := s1.trans (s2.trans (same_upd npc))
    have e3 : upd H2 pc (.tup ((clausesOf r o).map V.str)) pc = some (.tup ((clausesOf r o).map V.str)) := upd_same
    have ec : ((((asked r o).filter fun p => p.2).map fun p => p.1).map V.str) = (clausesOf r o).map V.str := rfl
    rw [ec]
    generalize upd H2 pc (HO.tup ((clausesOf r o).map V.str)) = H3 at s3 e3 ⊢
    refine ⟨_, rfl, _, .inr (.inl ⟨_, SqT.of e3, rfl⟩), ?_⟩
    cases hk : (!((clausesOf r o).map V.str).isEmpty) with
    | true => exact iteT (iteT ⟨_, rfl, q H3 pc s3 e3⟩)
    | false =>
      refine iteF ⟨_, rfl, a, r, rfl, (ra.same s3).1, ra.2.2.1, fun H4 p4 s4 e4 => ⟨p4, _, rfl, .inr (SqT.of e4), _, _, rfl, rfl, _, rfl, ?_⟩⟩
      rw [List.length_map]
      refine ite2 (fun _ => ⟨_, rfl, q H4 pc (s3.trans s4) (s4 _ _ e3)⟩) (fun z => ?_)
      exact absurd (decide_eq_true (by omega)) z
end
end K70

namespace K70
open PySem PySem.Spec PyProof.Rows L2 MG
abbrev sComes : Stmt := topS 22
abbrev nComes : List Str := ["row", "other"]
theorem scComes : FnScope ["row", "other"] ["row", "other"] (defScope sComes) := ⟨rfl, rfl, rfl, by decide +kernel, rfl, by decide +kernel, by decide +kernel⟩
section
variable {P : Program} {w : World} {K : PySem.W.Frag} {mg : Str → Option Value} {base : Heap}
def spComes : Sp := fun vs H Q _ => ∃ a b r o, vs = [.ref a, .ref b] ∧ Row H a r ∧ Row H b o ∧ (r = o ∨ 3 ≤ (hold r r.length).length) ∧ ∀ H', Same H H' → Q (.bl (decide (brkT r o = []))) H'
theorem ok_comes {f fK : Addr} {fd fdK : FuncData} {k : Nat} (F : Fun K "comes" "comes" sComes f fd)
    (FK : Fun K "broken" "broken" sBroken fK fdK) (bK : Binds K fdK ["row", "other"] []) (gK : mg "broken" = some (.ref fK)) (GK : FnOk P w K mg base CX0 (k + 6) fK fdK ["row", "other"] spBroken) :
    FnOk P w K mg base CX0 (k + 7) f fd ["row", "other"] spComes := by
  refine F.ok scComes (fun vs H Q E h => ?_) (fun cdv A outer s H vs Q E hr h => ?_)
  · obtain ⟨a, b, r, o, rfl, _⟩ := h
    rfl
  · obtain ⟨a, b, r, o, rfl, ra, rb, h3, q⟩ := h
    have hr6 := hr
    refine ⟨_, pss_one (ps_ret (pe_cmpR (op_eqD hr.units) (pe_call GK hr6 (by rfl) gK FK.kp bK .nil pass0 (pa_cons (pv 0) (pa_cons (pv 1) pa_nil))) (pe_tup pa_nil) (nomark _))), ?_⟩
    refine ⟨_, rfl, _, rfl, a, b, r, o, rfl, ra, rb, h3, fun G p s1 e1 => ⟨by show 0 ≤ sizeLine; decide, fun e0 n0 => ?_⟩⟩
    have s2 : Same G (upd G e0 (.tup [])) := same_upd n0
    refine ⟨.tuple ((brkT r o).map PyData.str), .tuple (([] : List Str).map PyData.str), .tup (SqT.of (s2 _ _ e1)) (dpStrsG _), .tup (SqT.of upd_same) .nil, shapedT_strs _ (brk_layG r o), rfl, ?_⟩
    rw [eqv_strs]
    exact q _ (s1.trans s2)
end
end K70

/-! MG: what is due of wishes where two places at least are free -/
namespace MG
open PySem PySem.Spec PyProof.Rows L2
def posL (l : List Int) : List Int := l.filter fun n => decide (0 < n)
def isPow (n : Nat) : Bool := decide (n / 2 ^ v2 n = 1)
/-- in units -/
def dueU (s : List Int) (l : Int) (od : Nat) : Bool :=
  if oddc s = 0 ∧ l % 2 = 0 ∧ (0 < l ∨ isPow (gl s) = true) then true
  else if l = 0 then isPow (gl s) && (decide (0 < oddc s) && decide (oddc s ≤ od)) && decide (oddc s < s.length)
  else if l % 2 = 1 then decide (oddc s + 1 ≤ od) && (decide (1 < l) || decide (oddc s < s.length))
  else decide (0 < oddc s) && decide (oddc s ≤ od)
end MG

/-! MG: parts of tuples, texts of rows or none -/
namespace MG
open PySem PySem.Spec PyProof.Rows L2
theorem cut_toV {xs : List V} {n : Nat} (h : n ≤ xs.length) : cutV xs none (some (n : Int)) = xs.take n := by
  unfold cutV
  rw [HT.sIx_none, HT.sIx_nat, Nat.min_eq_left h, Nat.sub_zero, List.drop_zero]
/-- a row or none, as data -/
def oD : Option (List Int) → PyData
  | none => .none
  | some o => rowDt o
end MG

/-! MG: meetings; xs[i] -= e -/
namespace MG
open PySem PySem.Spec PyProof.Rows L2
def rGetL (K : PySem.W.Frag) : V → V → Hp → VK → Prop := fun x y H Q => ∃ (p : Addr) (xs : List V) (j : Nat) (v : V), x = .ref p ∧ y = .int (j : Int) ∧ SqL K H p xs ∧ xs[j]? = some v ∧ Q v H
/-- the places of those who have something in all rows -/
def plF (n : Nat) (R : List (List Int)) : List Int := ((List.range n).filter fun j => R.all fun r => decide (0 < r.getD j 0)).map fun (j : Nat) => (j : Int)
def maxU : List (List Int) → Nat
  | [] => 0
  | r :: R => max (gl r) (maxU R)
def behF (n : Nat) (S : Int) (U : Nat) : List Int → List Int
  | [] => List.replicate n 0
  | [p] => (List.replicate n 0).set p.toNat S
  | p :: q :: _ => (((List.replicate n 0).set p.toNat S).set q.toNat (2 * (U : Int))).set p.toNat (S - 2 * (U : Int))
def unlike (n : Nat) (S : Int) (R : List (List Int)) : Bool := R.any fun r => decide (r.length ≠ n) || decide (r.sum ≠ S)
def meetF (n : Nat) (S : Int) (R : List (List Int)) : Option (List Int) :=
  if unlike n S R = true then none
  else if plF n R = [] then none
  else if ∀ r ∈ R, brkT r (behF n S (maxU R) (plF n R)) = [] then some (behF n S (maxU R) (plF n R)) else none
end MG

/-! MG: {row: v} -/
namespace MG
open PySem PySem.Spec PyProof.Rows L2
section
variable {X : Cx}
def tDispT (tk tv : TE) : TE := fun σ H Q => ∀ p, H p = none → tk σ (upd H p (.dT [])) fun x H1 => tv σ H1 fun y H2 => H2 p = some (.dT []) ∧ ∃ b k, x = .ref b ∧ H2 b = some (.tup (k.map kV)) ∧ Q (.ref p) (upd H2 p (.dT [(k, y)]))
end
end MG

/-! MG: all rows that deeds come to -/
namespace MG
open PySem PySem.Spec PyProof.Rows L2
inductive Re (r : List Int) : List Int → Prop
  | refl : Re r r
  | step {m : List Int} {i j : Nat} : Re r m → MayG m i j → Re r (deed m i j)
theorem Re.keeps {r o : List Int} (h : Re r o) (nn : ∀ n ∈ r, 0 ≤ n) : o.length = r.length ∧ o.sum = r.sum ∧ ∀ n ∈ o, 0 ≤ n := by
  induction h with
  | refl => exact ⟨rfl, rfl, nn⟩
  | step _ m ih =>
    have l := deed_lv m ih.2.2
    exact ⟨l.len.trans ih.1, l.sum.trans ih.2.1, l.nn⟩
theorem Re.trans {r m o : List Int} (a : Re r m) (b : Re m o) : Re r o := by
  induction b with
  | refl => exact a
  | step _ h ih => exact .step ih h
def enc : List Int → Nat
  | [] => 0
  | x :: l => x.toNat + 13 * enc l
def kR (r : List Int) : List Key := r.map Sum.inl
def dE (e : List Int × Int) : List Key × V := (kR e.1, .int e.2)
/-- while the next ones are sought -/
structure Mid (r : List Int) (F : List (List Int)) (E : List (List Int × Int)) (M : List (List Int)) : Prop where
  nd : (E.map Prod.fst).Nodup
  re : ∀ o ∈ E.map Prod.fst, Re r o
  sub : ∀ o ∈ F, o ∈ E.map Prod.fst
  new : ∀ o ∈ E.map Prod.fst, o ∈ F ∨ o ∈ M
  mem : ∀ o ∈ M, o ∈ E.map Prod.fst
  grow : F.length + M.length = E.length
end MG

/-! MG: rows that come again -/
namespace MG
open PySem PySem.Spec PyProof.Rows L2
theorem setP_id {r : List Int} {i j p q : Nat} (T : Two r i j p q) : setP r i j (p : Int) = r := by
  unfold setP
  rw [T.ei, T.ej]
  have hi := T.hi
  have hj := T.hj
  have e1 : r.set i (p : Int) = r := by
    have := T.ei
    rw [getD_eq hi] at this
    rw [← this]
    exact List.set_getElem_self hi
  have e2 : (p : Int) + q - p = q := by omega
  rw [e1, e2]
  have := T.ej
  rw [getD_eq hj] at this
  rw [← this]
  exact List.set_getElem_self hj
end MG

/-! MG: gathering: deeds of three by which the least amount is halved, and how long that can go on -/
namespace MG
open PySem PySem.Spec PyProof.Rows L2
/-- deeds one behind the other -/
def goD : List Int → List (Nat × Nat) → List Int
  | r, [] => r
  | r, d :: ds => goD (deed r d.1 d.2) ds
def OkD : List Int → List (Nat × Nat) → Prop
  | _, [] => True
  | r, d :: ds => MayG r d.1 d.2 ∧ OkD (deed r d.1 d.2) ds
/-- the figures' deeds: l is doubled, m gives for a 1, g for a 0 -/
def figD (l m g : Nat) : Nat → Nat → List (Nat × Nat)
  | 0, _ => []
  | t + 1, F => (if F % 2 = 1 then m else g, l) :: figD l m g t (F / 2)
/-- what stands behind the figures' deeds: T = 2 ^ t many are l's, F of them are m's in the end -/
structure FigEnd (r o : List Int) (l m g : Nat) (a T F : Int) : Prop where
  len : o.length = r.length
  at_l : o.getD l 0 = a * T
  at_m : o.getD m 0 = r.getD m 0 - a * (F - T)
  at_g : o.getD g 0 = r.getD g 0 - a * (2 * T - 1 - F)
  else_ : ∀ p, p ≠ l → p ≠ m → p ≠ g → o.getD p 0 = r.getD p 0
/-- the deeds of a lessening: a at l, b at m -/
def lesU (a b : Nat) : Bool := decide (a < 2 * (b % a))
def lesF (a b : Nat) : Nat := if lesU a b then b / a + 1 else b / a
def lesD (l m g a b : Nat) : List (Nat × Nat) := figD l m g (Nat.log2 (lesF a b)) (lesF a b) ++ [if lesU a b then (l, m) else (m, l)]
structure LesEnd (r o : List Int) (l m g : Nat) (a b : Nat) : Prop where
  len : o.length = r.length
  else_ : ∀ p, p ≠ l → p ≠ m → p ≠ g → o.getD p 0 = r.getD p 0
  at_l : 0 < o.getD l 0
  at_g : 0 < o.getD g 0
  at_m : 0 ≤ o.getD m 0
  gone : o.getD m 0 = 0 ∨ (0 < o.getD m 0 ∧ ∃ p, (p = l ∨ p = m) ∧ 2 * o.getD p 0 ≤ a)
  mid : b % a ≠ 0 → 0 < o.getD m 0
/-! ### how many have something -/
/-- how long gathering can go on: 111 turns for each who has something, one for each figure of an amount -/
def Pot (r : List Int) (n : Nat) : Prop := ∃ e p, 111 * (hold r r.length).length + e ≤ n ∧ e ≤ 110 ∧ p < r.length ∧ 0 < r.getD p 0 ∧ r.getD p 0 < 2 ^ e
end MG

/-! MG: plans, and as few as can be -/
namespace MG
open PySem PySem.Spec PyProof.Rows L2
abbrev Rn : Type := Nat × Nat × Nat
def runT (r : List Int) (x : Rn) : List Int := setP r x.1 x.2.1 (((r.getD x.1 0).toNat * 2 ^ x.2.2 % ((r.getD x.1 0).toNat + (r.getD x.2.1 0).toNat) : Nat) : Int)
/-- a run that may be done -/
def RunOk (r : List Int) (x : Rn) : Prop := ∃ p q : Nat, Two r x.1 x.2.1 p q ∧ (due p q = none ∨ ∃ d, due p q = some d ∧ x.2.2 ≤ d)
def goP : List Int → List Rn → List Int
  | r, [] => r
  | r, x :: L => goP (runT r x) L
def OkP : List Int → List Rn → Prop
  | _, [] => True
  | r, x :: L => RunOk r x ∧ OkP (runT r x) L
theorem runT_of {r : List Int} {x : Rn} {p q : Nat} (T : Two r x.1 x.2.1 p q) : runT r x = setP r x.1 x.2.1 ((p * 2 ^ x.2.2 % (p + q) : Nat) : Int) := by
  unfold runT
  rw [T.ei, T.ej, Int.toNat_natCast, Int.toNat_natCast]
/-! ### as few as can be -/
def few (r : List Int) : Int := if ((r.sum.toNat / 2 ^ v2 r.sum.toNat : Nat) : Int) = ms r then 1 else 2
/-! ### plans as objects -/
def plO (x : Rn) : Option HO := some (.tup [.int x.1, .int x.2.1, .int x.2.2])
def PlAt (H : Hp) (ts : List Addr) (L : List Rn) : Prop := ts.map H = L.map plO
/-! ### runs are deeds -/
theorem run_re {r : List Int} {i j p q : Nat} (T : Two r i j p q) : ∀ k : Nat, (∀ m, m < k → 0 < p * 2 ^ m % (p + q)) → Re r (setP r i j ((p * 2 ^ k % (p + q) : Nat) : Int))
  | 0, _ => by
    have q0 := T.q0
    rw [Nat.pow_zero, Nat.mul_one, Nat.mod_eq_of_lt (by omega), setP_id T]
    exact .refl
  | k + 1, h => by
    have ih := run_re T k fun m hm => h m (by omega)
    have hx := h k (Nat.lt_succ_self k)
    have hlt : p * 2 ^ k % (p + q) < p + q := Nat.mod_lt _ (by have := T.p0; omega)
    have e3 : p * 2 ^ (k + 1) % (p + q) = 2 * (p * 2 ^ k % (p + q)) % (p + q) := by
      rw [Nat.mul_mod_mod, Nat.pow_succ, ← Nat.mul_assoc, Nat.mul_comm]
    rw [e3]
    generalize p * 2 ^ k % (p + q) = x at ih hx hlt
    have T1 : Two (setP r i j x) i j x (p + q - x) := ⟨by rw [setP_len]; exact T.hi, by rw [setP_len]; exact T.hj, T.ne, setP_i T x, by rw [setP_j T]; omega, hx, by omega⟩
    obtain ⟨a, b, m, e⟩ := two_step T1
    have := Re.step ih m
    rw [e, setP_setP T, show x + (p + q - x) = p + q by omega] at this
    exact this
theorem runOk_re {r : List Int} {x : Rn} (h : RunOk r x) : Re r (runT r x) := by
  obtain ⟨p, q, T, hd⟩ := h
  rw [runT_of T]
  refine run_re T _ fun m hm => rest_pos T.p0 T.q0 ?_
  rcases hd with h | ⟨d, h1, h2⟩
  · exact .inl h
  · exact .inr ⟨d, h1, by omega⟩
end MG

/-! MG: the end of a law whose defs make lambdas: the tables of code objects are known from the start on. -/
namespace MG
open PySem PySem.Spec PyProof.Rows L2 LamX
abbrev tabO : Obj := { cls := .none, data := .fields #[] }
/-- known at the start: the tables, and the script where it is no constant -/
def startH (cs : List (Addr × Addr)) (a : Addr) (script : Option HO) : Hp := fun b => if b ∈ cs.map Prod.snd then some (.tbl #[]) else if b = a then script else none
end MG

/-! MG: sorted(t, key=lambda p: ..) of a tuple of whole numbers; the lambda is held as a def within a def that has no rows. -/
namespace MG
open PySem PySem.Spec PyProof.Rows L2 LamX NdefX

abbrev lamOf (X : Cx) (params : Arguments) (scope : Scope) (c : Addr) : NF :=
  { name := "<lambda>", qual := X.env.qual ++ "<lambda>", params := params, body := [], scope := scope,
    cl := cloFrom X.env.cells scope.names [], c := c }
abbrev lamObj (X : Cx) (params : Arguments) (body : Expr) (scope : Scope) (pm : Value) (c : Addr) (ct : Value) : Obj :=
  PySem.W.kla_obj "<lambda>" (X.env.qual ++ "<lambda>") params body scope (cloFrom X.env.cells scope.names []) pm c ct
abbrev lamCtx (X : Cx) (N : List Str) (params : Arguments) (scope : Scope) (f c : Addr) (A : Around) (s : Shared) (H : Hp) : Cx :=
  ncx CX0 X.prog X.w X.K X.mg X.base N (lamOf X params scope c) f A X.stack s H (fun _ _ _ => False)

section one
variable {X : Cx} {pins : List (Addr × Obj)} {σ : L2.St} {H : Hp} {s : Shared} {A : Around}

end one
end MG

/-! MG: objects of a built-in's own that are pinned, changed, and at last known to the reading. -/
namespace MG
open PySem PySem.Spec PyProof.Rows L2

section pin
variable {X : Cx} {pins : List (Addr × Obj)} {σ : L2.St} {H : Hp} {s : Shared}
end pin

end MG

/-! MG: a list sorted by keys that a function of ours tells. -/
namespace MG
open PySem PySem.Spec PyProof.Rows L2 LamX NdefX
open PySem.W (EachIs)

/-- the numbers, sorted by g, alike ones as they stood -/
def srt (g : Int → Int) (ns : List Int) : List Int := ns.mergeSort fun x y => decide (g x ≤ g y)
def IsI (u : Value) (n : Int) : Prop := RelV (.int n) u
section
variable {X : Cx} {pins : List (Addr × Obj)} {σ : L2.St} {H : Hp} {A : Around} {E : Value → Shared → Prop} {P : PySem.Fin → Shared → Prop}
abbrev lstO (xs : Array Value) (n : Nat) : Obj := seqObj "list" xs n
/-- what f tells of n is g n, whatever of ours is pinned, and nothing changes -/
def Tells (X : Cx) (A : Around) (σ : L2.St) (H : Hp) (f : Addr × Obj) (g : Int → Int) (ns : List Int) : Prop :=
  ∀ n ∈ ns, ∀ (u : Value) (ps : List (Addr × Obj)) (s : Shared), IsI u n → f ∈ ps → Inv X ps σ H s →
    wpAny (model X.prog X.w) A (call (.ref f.1) [u]) (EP X ps σ fun v H' => H' = H ∧ v = .int (g n)) (fun _ _ => False) s
end
end MG

/-! MG: the rule for sorted(t, key=lambda p: body), t a tuple of whole numbers. -/
namespace MG
open PySem PySem.Spec PyProof.Rows L2 LamX NdefX
open PySem.W (EachIs)
section
variable {X : Cx} {pins : List (Addr × Obj)} {σ : L2.St} {H : Hp} {A : Around} {E : Value → Shared → Prop} {P : PySem.Fin → Shared → Prop}
end

/-- the reading: the tuple, the tables, then of each number what the body tells, nothing changed -/
def rSortLam (K : PySem.W.Frag) (T : List (Addr × Str)) (N : List Str) (js : List Nat) (tb : TE) (σ : L2.St) (Q : VK) : List V → Hp → Prop
  | [x], H1 => ∃ (a : Addr) (ns : List Int) (g : Int → Int), x = .ref a ∧ H1 a = some (.tup (ns.map V.int)) ∧ Tabs T H1 ∧
      ∀ H2, ExtN H1 H2 → Tabs T H2 → (∀ n ∈ ns, tb (startF N [.int n] (js.map (slotAt σ))) H2 fun v H' => H' = H2 ∧ v = .int (g n)) ∧
        ∀ q, H2 q = none → Q (.ref q) (upd H2 q (.lst ((srt g ns).map V.int)))
  | _, _ => False
def tSortLam (K : PySem.W.Frag) (T : List (Addr × Str)) (N : List Str) (js : List Nat) (te tb : TE) : TE := fun σ H Q => te σ H fun x H1 => rSortLam K T N js tb σ Q [x] H1
end MG

/-! MG: a def whose code object is known; tables kept -/
namespace MG
open PySem PySem.Spec PyProof.Rows L2 LamX NdefX
section
variable {P : Program} {w : World} {K : PySem.W.Frag} {mg : Str → Option Value} {base : Heap}
end
/-! ### tables -/
/-- all but the box and the tables stay -/
def SXN (b : Addr) (H H' : Hp) : Prop := ∀ a o, a ≠ b → H a = some o → (∀ ps, o ≠ .tbl ps) → H' a = some o
end MG

namespace K70
open PySem PySem.Spec PyProof.Rows L2 MG LamX
abbrev sGcd : Stmt := topS 29
abbrev nGcd : List Str := ["_law_one", "_law_other"]
theorem scGcd : FnScope ["_law_one", "_law_other"] ["_law_one", "_law_other"] (defScope sGcd) := ⟨rfl, rfl, rfl, by decide +kernel, rfl, by decide +kernel, by decide +kernel⟩
abbrev sPow : Stmt := topS 30
abbrev nPow : List Str := ["_law_many", "_law_by", "_law_found", "_law_base"]
theorem scPow : FnScope ["_law_many", "_law_by", "_law_found", "_law_base"] ["_law_many", "_law_by"] (defScope sPow) := ⟨rfl, rfl, rfl, by decide +kernel, rfl, by decide +kernel, by decide +kernel⟩
abbrev sLeapt : Stmt := topS 31
abbrev nLeapt : List Str := ["_law_row", "_law_step", "_law_i", "_law_j", "_law_many", "_law_total", "_law_left", "_law_most", "_law_here"]
theorem scLeapt : FnScope ["_law_row", "_law_step", "_law_i", "_law_j", "_law_many", "_law_total", "_law_left", "_law_most", "_law_here"] ["_law_row", "_law_step"] (defScope sLeapt) := ⟨rfl, rfl, rfl, by decide +kernel, rfl, by decide +kernel, by decide +kernel⟩
theorem dbl_odd {r f t wh : Nat} (h : t % 2 = 1) : (r * f % wh) * (f * f % wh) ^ (t / 2) % wh = r * f ^ t % wh := by
  have e : f ^ t = f * (f * f) ^ (t / 2) := by
    rw [← Nat.pow_two, ← Nat.pow_mul, Nat.mul_comm f, ← Nat.pow_succ]
    congr 1
    omega
  rw [e, Nat.mul_mod, Nat.mod_mod, Nat.pow_mod, Nat.mod_mod, ← Nat.pow_mod, ← Nat.mul_mod, Nat.mul_assoc]
theorem dbl_even {r f t wh : Nat} (h : t % 2 = 0) : r * (f * f % wh) ^ (t / 2) % wh = r * f ^ t % wh := by
  have e : f ^ t = (f * f) ^ (t / 2) := by
    rw [← Nat.pow_two, ← Nat.pow_mul]
    congr 1
    omega
  rw [e, Nat.mul_mod, Nat.pow_mod, Nat.mod_mod, ← Nat.pow_mod, ← Nat.mul_mod]
theorem trick {A B : Prop} (h : A → B) (a : A) : B := h a
section
variable {P : Program} {w : World} {K : PySem.W.Frag} {mg : Str → Option Value} {base : Heap}
def spGcd : Sp := fun vs H Q _ => ∃ a b : Nat, vs = [.int a, .int b] ∧ Q (.int (Nat.gcd a b : Nat)) H
theorem ok_gcd {f : Addr} {fd : FuncData} {k : Nat} (F : Fun K "_law_greatest" "_law_greatest" sGcd f fd) : FnOk P w K mg base CX0 (k + 1) f fd ["_law_one", "_law_other"] spGcd := by
  refine F.ok scGcd (fun vs H Q E h => ?_) (fun cdv A outer s H vs Q E hr h => ?_)
  · obtain ⟨a, b, rfl, _⟩ := h
    rfl
  · obtain ⟨a, b, rfl, q⟩ := h
    refine ⟨_, pss_cons (ps_while PassesOwn.never (pt_cmpR op_gt (pv 1) pe_int (nomark _)) (pss_one (ps_par (i := 0) (j := 1) rfl scGcd.nd rfl rfl (by decide) rfl rfl (pa_cons (pv 1) (pa_cons (pe_op op_mod (pv 0) (pv 1)) pa_nil)) (by rfl))))
      (pss_one (ps_ret (pv 0))), ?_⟩
    refine while_by (fun σ H' => ∃ x y : Nat, σ = [some (.int x), some (.int y)] ∧ H' = H ∧ Nat.gcd x y = Nat.gcd a b) (fun σ _ => match σ with | [_, some (.int y)] => y.toNat | _ => 0) ⟨a, b, rfl, rfl, rfl⟩ ?_ ?_
    · rintro σ H' ⟨x, y, rfl, rfl, e⟩
      refine ⟨_, rfl, (y : Int), 0, rfl, rfl, _, rfl, ite2 (fun h => ?_) (fun h => ?_)⟩
      · have y0 : 0 < y := by have := of_decide_eq_true h; omega
        refine ⟨_, rfl, _, rfl, _, rfl, (x : Int), (y : Int), rfl, rfl, (by show (0 : Int) < y; omega), _, _, rfl, ⟨y, x % y, ?_, rfl, ?_⟩, ?_⟩
        · rw [Int.natCast_emod]; rfl
        · rw [← e, Nat.gcd_comm x y, Nat.gcd_rec y x, Nat.gcd_comm]
        · show ((x : Int) % y).toNat < (y : Int).toNat
          have h1 := Int.emod_nonneg (x : Int) (show (y : Int) ≠ 0 by omega)
          have h2 := Int.emod_lt_of_pos (x : Int) (show (0 : Int) < y by omega)
          omega
      · have y0 : y = 0 := by
          have : ¬ (y : Int) > 0 := fun z => h (decide_eq_true z)
          omega
        subst y0
        rw [Nat.gcd_zero_right] at e
        refine ⟨_, rfl, ?_⟩
        rw [e]
        exact q
    · rintro σ H' Q1 Q2 hq ⟨x, e1, i, j, e2, e3, z, e4, h⟩
      exact ⟨x, e1, i, j, e2, e3, z, e4, hq _ _ h⟩
def spPow : Sp := fun vs H Q _ => ∃ ti wh : Nat, vs = [.int ti, .int wh] ∧ 1 < wh ∧ wh < 2 ^ 130 ∧ Q (.int (2 ^ ti % wh : Nat)) H
theorem ok_pow {f : Addr} {fd : FuncData} {k : Nat} (F : Fun K "_law_power" "_law_power" sPow f fd) : FnOk P w K mg base CX0 (k + 1) f fd ["_law_many", "_law_by"] spPow := by
  refine F.ok scPow (fun vs H Q E h => ?_) (fun cdv A outer s H vs Q E hr h => ?_)
  · obtain ⟨ti, wh, rfl, _⟩ := h
    rfl
  · obtain ⟨ti, wh, rfl, h0, h1, q⟩ := h
    refine ⟨_, pss_cons (ps_par (i := 2) (j := 3) rfl scPow.nd rfl rfl (by decide) rfl rfl (pa_cons (pe_op op_mod pe_int (pv 1)) (pa_cons (pe_op op_mod pe_int (pv 1)) pa_nil)) (by rfl))
      (pss_cons (ps_while PassesOwn.never (pt_cmpR op_gt (pv 0) pe_int (nomark _)) (pss_mid (ps_if (pt_cmpR op_eq (pe_op op_mod (pv 0) pe_int) pe_int (nomark _)) (pss_one (ps_set (i := 2) scPow.nd rfl (.inl rfl) (pe_op op_mod (pe_op op_mulW (pv 2) (pv 3)) (pv 1)))) pss_nil)
      (pss_one (ps_par (i := 3) (j := 0) rfl scPow.nd rfl rfl (by decide) rfl rfl (pa_cons (pe_op op_mod (pe_op op_mulW (pv 3) (pv 3)) (pv 1)) (pa_cons (pe_op op_fdivW (pv 0) pe_int) pa_nil)) (by rfl)))))
      (pss_one (ps_ret (pv 2)))), ?_⟩
    have hw : (fun (_ j : Int) => 0 < j) (1 : Int) (wh : Int) := show (0 : Int) < wh by omega
    have wm : ∀ {x y : Nat}, x < wh → y < wh → CMulW (x : Int) (y : Int) := fun hx hy => wide_mul (a := 130) (b := 130) (by omega) (by omega) (by decide) (by decide) (by decide)
    have hm : ∀ x : Nat, x % wh < wh := fun x => Nat.mod_lt _ (by omega)
    refine ⟨_, rfl, 1, (wh : Int), rfl, rfl, hw, _, rfl, 2, (wh : Int), rfl, rfl, hw, _, _, rfl, ?_⟩
    refine while_by (fun σ H' => ∃ t r f : Nat, σ = [some (.int t), some (.int wh), some (.int r), some (.int f)] ∧ H' = H ∧ r < wh ∧ f < wh ∧ r * f ^ t % wh = 2 ^ ti % wh) (fun σ _ => match σ with | [some (.int t), _, _, _] => t.toNat | _ => 0) ⟨ti, 1 % wh, 2 % wh, ?_, rfl, hm _, hm _, ?_⟩ ?_ ?_
    · rw [Int.natCast_emod, Int.natCast_emod]; rfl
    · rw [Nat.mul_mod, Nat.mod_mod, Nat.pow_mod, Nat.mod_mod, ← Nat.pow_mod, ← Nat.mul_mod, Nat.one_mul]
    · rintro σ H' ⟨t, r, f, rfl, rfl, hr', hf, inv⟩
      refine ⟨_, rfl, (t : Int), 0, rfl, rfl, _, rfl, ite2 (fun ht => ?_) (fun ht => ?_)⟩
      · have ht' : 0 < t := by have := of_decide_eq_true ht; omega
        refine ⟨fun σ1 H1 => ∃ r' : Nat, σ1 = [some (.int t), some (.int wh), some (.int r'), some (.int f)] ∧ H1 = H' ∧ r' < wh ∧ r' * (f * f % wh) ^ (t / 2) % wh = 2 ^ ti % wh, ?_, ?_⟩
        · refine ⟨_, rfl, (t : Int), 2, rfl, rfl, (by show (0 : Int) < 2; decide), rfl, _, rfl, ite2 (fun z => ?_) (fun z => ?_)⟩
          · have z' : t % 2 = 1 := by have := V.int.inj (of_decide_eq_true z); omega
            refine ⟨_, rfl, _, rfl, (r : Int), (f : Int), rfl, rfl, wm (by omega) (by omega), _, rfl, _, (wh : Int), rfl, rfl, hw, r * f % wh, ?_, rfl, hm _, by rw [dbl_odd z']; exact inv⟩
            rw [Int.natCast_emod, Int.natCast_mul]; rfl
          · have z' : t % 2 = 0 := by
              have : ¬ t % 2 = 1 := fun w => z (decide_eq_true (by
                show V.int ((t : Int) % 2) = V.int 1
                rw [show (t : Int) % 2 = 1 by omega]))
              omega
            exact ⟨r, rfl, rfl, hr', by rw [dbl_even z']; exact inv⟩
        · rintro σ1 H1 ⟨r', rfl, rfl, h2, h3⟩
          have cd : CDivW (t : Int) 2 := wide_div (b := 3) (by decide) (by decide) (by decide) (by decide)
          refine ⟨_, rfl, _, rfl, (f : Int), (f : Int), rfl, rfl, wm hf hf, _, rfl, _, (wh : Int), rfl, rfl, hw, _, rfl, (t : Int), 2, rfl, rfl, cd, _, _, rfl, ⟨t / 2, r', f * f % wh, ?_, rfl, h2, hm _, h3⟩, ?_⟩
          · rw [Int.natCast_ediv, Int.natCast_emod, Int.natCast_mul]; rfl
          · show ((t : Int) / 2).toNat < (t : Int).toNat
            omega
      · have ht' : t = 0 := by
          have : ¬ (t : Int) > 0 := fun z => ht (decide_eq_true z)
          omega
        subst ht'
        rw [Nat.pow_zero, Nat.mul_one, Nat.mod_eq_of_lt hr'] at inv
        refine ⟨_, rfl, ?_⟩
        rw [inv]
        exact q
    · rintro σ H' Q1 Q2 hq ⟨x, e1, i, j, e2, e3, z, e4, h⟩
      exact ⟨x, e1, i, j, e2, e3, z, e4, hq _ _ h⟩
def spLeapt : Sp := fun vs H Q _ => ∃ (a t : Addr) (ns : List Int) (x : Rn), vs = [.ref a, .ref t] ∧ H a = some (.tup (ns.map V.int)) ∧ H t = some (.tup [.int x.1, .int x.2.1, .int x.2.2]) ∧ (∃ p q, Two ns x.1 x.2.1 p q) ∧ (∀ n ∈ ns, 0 ≤ n) ∧ ns.sum < 2 ^ 110 ∧ ns.length ≤ 30 ∧
  (∀ l H', Same H H' → H l = none → H' l = some (.lst []) → Q (.ref l) H') ∧
  (RunOk ns x → ∀ l u H', Same H H' → H l = none → H u = none → H' l = some (.lst [.ref u]) → H' u = some (.tup ((runT ns x).map V.int)) → Q (.ref l) H')
theorem ok_leapt {f fG fP : Addr} {fd fdG fdP : FuncData} {k : Nat} (F : Fun K "_law_leapt" "_law_leapt" sLeapt f fd)
    (FGr : Fun K "_law_greatest" "_law_greatest" sGcd fG fdG) (bGr : Binds K fdG ["_law_one", "_law_other"] []) (gGr : mg "_law_greatest" = some (.ref fG)) (GGr : FnOk P w K mg base CX0 (k + 1) fG fdG ["_law_one", "_law_other"] spGcd)
    (FPw : Fun K "_law_power" "_law_power" sPow fP fdP) (bPw : Binds K fdP ["_law_many", "_law_by"] []) (gPw : mg "_law_power" = some (.ref fP)) (GPw : FnOk P w K mg base CX0 (k + 1) fP fdP ["_law_many", "_law_by"] spPow)
    (m_list : mg "list" = none) (m_int : mg "int" = none) (m_tuple : mg "tuple" = none) : FnOk P w K mg base CX0 (k + 2) f fd ["_law_row", "_law_step"] spLeapt := by
  refine F.ok scLeapt (fun vs H Q E h => ?_) (fun cdv A outer s H vs Q E hr h => ?_)
  · obtain ⟨a, t, ns, x, rfl, _⟩ := h
    rfl
  · obtain ⟨a, t, ns, x, rfl, ea, et, ⟨p, r, T⟩, nn, hs, hl, bad, want⟩ := h
    have hr1 := hr
    refine ⟨_, pss_cons (ps_asg (pv 1) (pg_tup rfl (pgs_cons (pg_name (i := 2) scLeapt.nd rfl (.inl rfl)) (pgs_cons (pg_name (i := 3) scLeapt.nd rfl (.inl rfl)) (pgs_cons (pg_name (i := 4) scLeapt.nd rfl (.inl rfl)) pgs_nil)))))
      (pss_cons (ps_set (i := 5) scLeapt.nd rfl (.inl rfl) (pe_op op_add (pe_ix ix_tup (pv 0) (pv 2) (fun _ _ => rfl)) (pe_ix ix_tup (pv 0) (pv 3) (fun _ _ => rfl))))
      (pss_cons (ps_if (PW.pt (pw_or (pt_cmpR op_eq (pe_ix ix_tup (pv 0) (pv 2) (fun _ _ => rfl)) pe_int (nomark _)) (pw_or1 (pt_cmpR op_eq (pe_ix ix_tup (pv 0) (pv 3) (fun _ _ => rfl)) pe_int (nomark _))))) (pss_one (ps_ret (pe_lst pa_nil))) pss_nil)
      (pss_cons (ps_par (i := 6) (j := 7) rfl scLeapt.nd rfl rfl (by decide) rfl rfl (pa_cons (pe_op op_fdivW (pv 5) (pe_call GGr hr1 (by rfl) gGr FGr.kp bGr .nil pass0 (pa_cons (pe_ix ix_tup (pv 0) (pv 2) (fun _ _ => rfl)) (pa_cons (pe_ix ix_tup (pv 0) (pv 3) (fun _ _ => rfl)) pa_nil)))) (pa_cons pe_int pa_nil)) (by rfl))
      (pss_cons (ps_while PassesOwn.never (pt_cmpR op_eq (pe_op op_mod (pv 6) pe_int) pe_int (nomark _)) (pss_one (ps_par (i := 6) (j := 7) rfl scLeapt.nd rfl rfl (by decide) rfl rfl (pa_cons (pe_op op_fdivW (pv 6) pe_int) (pa_cons (pe_op op_add (pv 7) pe_int) pa_nil)) (by rfl))))
      (pss_cons (ps_if (PW.pt (pw_and (pt_cmpR op_eq (pv 6) pe_int (nomark _)) (pw_and1 (pt_cmpR op_gt (pv 4) (pv 7) (nomark _))))) (pss_one (ps_ret (pe_lst pa_nil))) pss_nil)
      (pss_cons (ps_set (i := 8) scLeapt.nd rfl (.inl rfl) (pe_callTy call_list_of (by rfl) m_list (by decide +kernel) (pa_cons (pv 0) pa_nil)))
      (pss_cons (ps_asg (pe_op op_mod (pe_op op_mulW (pe_ix ix_tup (pv 0) (pv 3) (fun _ _ => rfl)) (pe_call GPw hr1 (by rfl) gPw FPw.kp bPw .nil pass0 (pa_cons (pv 4) (pa_cons (pv 5) pa_nil)))) (pv 5)) (pg_sub (pv 8) (pv 3) set_list))
      (pss_cons (ps_asg (pe_op op_add (pe_ix ix_list (pv 8) (pv 3) (fun _ _ => rfl)) (pe_op op_mulW (pv 5) (pe_callTy call_int1 (by rfl) m_int (by decide +kernel) (pa_cons (pe_cmpR op_eq (pe_ix ix_list (pv 8) (pv 3) (fun _ _ => rfl)) pe_int (nomark _)) pa_nil)))) (pg_sub (pv 8) (pv 3) set_list))
      (pss_cons (ps_asg (pe_op op_sub (pv 5) (pe_ix ix_list (pv 8) (pv 3) (fun _ _ => rfl))) (pg_sub (pv 8) (pv 2) set_list))
      (pss_one (ps_ret (pe_lst (pa_cons (pe_callTy call_tuple_of (by rfl) m_tuple (by decide +kernel) (pa_cons (pv 8) pa_nil)) pa_nil))))))))))))), ?_⟩
    have ei := T.ei
    have ej := T.ej
    have p0 := T.p0
    have r0 := T.q0
    have bp := mem_le_sumG nn _ (MG.getD_mem T.hi)
    have br := mem_le_sumG nn _ (MG.getD_mem T.hj)
    have gi' : (ns.map V.int)[x.1]? = some (.int (p : Int)) := by rw [MG.getD_at T.hi, ei]
    have gj' : (ns.map V.int)[x.2.1]? = some (.int (r : Int)) := by rw [MG.getD_at T.hj, ej]
    have hS : SqT K H a (ns.map V.int) := SqT.of ea
    refine ⟨_, rfl, t, _, rfl, SqT.of et, rfl, .int (x.1 : Int), [.int (x.2.1 : Int), .int (x.2.2 : Int)], rfl, .int (x.2.1 : Int), [.int (x.2.2 : Int)], rfl, .int (x.2.2 : Int), [], rfl, rfl, ?_⟩
    refine ⟨_, rfl, _, rfl, a, _, (x.1 : Int), .int (p : Int), rfl, rfl, hS, atI_nat gi', _, rfl, _, rfl, a, _, (x.2.1 : Int), .int (r : Int), rfl, rfl, hS, atI_nat gj', _, _, rfl, rfl, ?_⟩
    refine ⟨_, rfl, _, rfl, a, _, (x.1 : Int), .int (p : Int), rfl, rfl, hS, atI_nat gi', rfl, _, rfl, ite2 (fun z => by have := V.int.inj (of_decide_eq_true z); omega) (fun _ => ?_)⟩
    refine ⟨_, rfl, _, rfl, a, _, (x.2.1 : Int), .int (r : Int), rfl, rfl, hS, atI_nat gj', rfl, _, rfl, ite2 (fun z => by have := V.int.inj (of_decide_eq_true z); omega) (fun _ => ?_)⟩
    have hg0 : 0 < Nat.gcd p r := Nat.gcd_pos_of_pos_left _ p0
    have hg1 : Nat.gcd p r ≤ p := Nat.le_of_dvd p0 (Nat.gcd_dvd_left _ _)
    have cd : CDivW ((p : Int) + r) (Nat.gcd p r : Nat) := wide_div (b := 130) (by omega) (by omega) (by decide) (by decide)
    have es : ((p : Int) + r) / (Nat.gcd p r : Nat) = (shares p r : Nat) := by
      unfold shares
      rw [Int.natCast_ediv, Int.natCast_add]
    have hs0 := shares_pos (a := p) (b := r) p0 r0
    refine ⟨_, rfl, _, rfl, _, rfl, a, _, (x.1 : Int), .int (p : Int), rfl, rfl, hS, atI_nat gi', _, rfl, _, rfl, a, _, (x.2.1 : Int), .int (r : Int), rfl, rfl, hS, atI_nat gj', p, r, rfl, _, _, rfl, rfl, cd, _, _, rfl, ?_⟩
    dsimp only
    rw [es]
    refine while_by (fun σ H' => ∃ y c : Nat, σ = [some (.ref a), some (.ref t), some (.int x.1), some (.int x.2.1), some (.int x.2.2), some (.int ((p : Int) + r)), some (.int (y : Int)), some (.int (c : Int)), none] ∧ H' = H ∧ 0 < y ∧ shares p r = 2 ^ c * y) (fun σ _ => match σ with | [_, _, _, _, _, _, some (.int y), _, _] => y.toNat | _ => 0) ⟨shares p r, 0, rfl, rfl, hs0, by rw [Nat.pow_zero, Nat.one_mul]⟩ ?_ ?_
    · rintro σ H2 ⟨y, c, rfl, rfl, y0, hy⟩
      refine ⟨_, rfl, (y : Int), 2, rfl, rfl, (by show (0 : Int) < 2; decide), rfl, _, rfl, ite2 (fun z => ?_) (fun z => ?_)⟩
      · have hev : y % 2 = 0 := by
          have := V.int.inj (of_decide_eq_true z)
          omega
        have cd2 : CDivW (y : Int) 2 := wide_div (b := 3) (by decide) (by decide) (by decide) (by decide)
        refine ⟨_, rfl, (y : Int), 2, rfl, rfl, cd2, _, rfl, (c : Int), 1, rfl, rfl, _, _, rfl, ⟨y / 2, c + 1, ?_, rfl, by omega, ?_⟩, ?_⟩
        · rw [Int.natCast_ediv, Int.natCast_add]; rfl
        · rw [Nat.pow_succ, Nat.mul_assoc, show 2 * (y / 2) = y by omega]; exact hy
        · show ((y : Int) / 2).toNat < (y : Int).toNat
          omega
      · have hod : y % 2 = 1 := by
          have : ¬ y % 2 = 0 := fun w => z (decide_eq_true (by
            show V.int ((y : Int) % 2) = V.int 0
            rw [show ((y : Int) % 2) = 0 by omega]))
          omega
        have hc : v2 (shares p r) = c := v2_unique hy hod
        have hyS : shares p r / 2 ^ v2 (shares p r) = y := by rw [hc, hy]; exact Nat.mul_div_cancel_left y (Nat.two_pow_pos c)
        by_cases hd : due p r = none ∨ ∃ d, due p r = some d ∧ x.2.2 ≤ d
        rotate_left
        · have y1 : y = 1 := Classical.byContradiction fun z => hd (.inl (by unfold due; rw [hyS, if_pos (by omega)]))
          have hk : c < x.2.2 := Classical.byContradiction fun z => hd (.inr ⟨c, by unfold due; rw [hyS, if_neg (by omega), hc], by omega⟩)
          refine ⟨_, rfl, rfl, _, rfl, ite2 (fun w => ?_) (fun w => absurd (decide_eq_true (congrArg V.int (by omega))) w)⟩
          refine ⟨_, rfl, _, rfl, (x.2.2 : Int), (c : Int), rfl, rfl, _, rfl, ite2 (fun w2 => ?_) (fun w2 => absurd (decide_eq_true (by omega)) w2)⟩
          exact ⟨by show 0 ≤ sizeLine; decide, fun l nl => bad l _ (same_upd nl) nl upd_same⟩
        have q := want ⟨p, r, T, hd⟩
        apply trick
        · intro fin
          refine ⟨_, rfl, rfl, _, rfl, ite2 (fun w => ?_) (fun w => fin)⟩
          have y1 : y = 1 := by have := V.int.inj (of_decide_eq_true w); omega
          refine ⟨_, rfl, _, rfl, (x.2.2 : Int), (c : Int), rfl, rfl, _, rfl, ite2 (fun w2 => ?_) (fun w2 => fin)⟩
          exfalso
          have hk : c < x.2.2 := by have := of_decide_eq_true w2; omega
          unfold due at hd
          rw [hyS, if_neg (by omega), hc] at hd
          rcases hd with h | ⟨d, h1, h2⟩
          · cases h
          · have := Option.some.inj h1
            omega
        refine ⟨_, rfl, a, _, rfl, .inr hS, fun D nD => ?_⟩
        have s1 : Same H2 (upd H2 D (.lst (ns.map V.int))) := same_upd nD
        have eD : upd H2 D (.lst (ns.map V.int)) D = some (.lst (ns.map V.int)) := upd_same
        generalize upd H2 D (HO.lst (ns.map V.int)) = G1 at s1 eD ⊢
        have hS1 : SqT K G1 a (ns.map V.int) := SqT.of (s1 _ _ ea)
        have wb : p + r < 2 ^ 130 := by omega
        have pw : 2 ^ x.2.2 % (p + r) < p + r := Nat.mod_lt _ (by omega)
        have cm : CMulW (r : Int) ((2 ^ x.2.2 % (p + r) : Nat) : Int) := wide_mul (a := 130) (b := 130) (by omega) (by omega) (by decide) (by decide) (by decide)
        have hw : (fun (_ j : Int) => 0 < j) ((r : Int) * ((2 ^ x.2.2 % (p + r) : Nat) : Int)) ((p : Int) + r) := show (0 : Int) < (p : Int) + r by omega
        refine ⟨_, rfl, _, rfl, a, _, (x.2.1 : Int), .int (r : Int), rfl, rfl, hS1, atI_nat gj', _, rfl, _, rfl, x.2.2, p + r, by rw [Int.natCast_add]; rfl, by omega, wb, _, _, rfl, rfl, cm, _, rfl, _, _, rfl, rfl, hw, ?_⟩
        have er : (r : Int) * ((2 ^ x.2.2 % (p + r) : Nat) : Int) % ((p : Int) + r) = ((r * 2 ^ x.2.2 % (p + r) : Nat) : Int) := by
          rw [← Nat.mul_mod_mod r (2 ^ x.2.2) (p + r)]
          generalize 2 ^ x.2.2 % (p + r) = M
          rw [Int.natCast_emod, Int.natCast_mul, Int.natCast_add]
        dsimp only
        rw [er]
        have hw2 : r * 2 ^ x.2.2 % (p + r) < p + r := Nat.mod_lt _ (by omega)
        have sp := setP_rest (k := x.2.2) T
        rw [← runT_of (x := x) T] at sp
        have lj : x.2.1 < (ns.map V.int).length := by rw [List.length_map]; exact T.hj
        have li : x.1 < (ns.map V.int).length := by rw [List.length_map]; exact T.hi
        generalize r * 2 ^ x.2.2 % (p + r) = M at *
        refine ⟨_, rfl, _, rfl, D, _, (x.2.1 : Int), x.2.1, rfl, rfl, eD, ixN_nat lj, ?_⟩
        have e2 : upd G1 D (.lst ((ns.map V.int).set x.2.1 (.int (M : Int)))) D = some (.lst ((ns.map V.int).set x.2.1 (.int (M : Int)))) := upd_same
        have g2 : ((ns.map V.int).set x.2.1 (.int (M : Int)))[x.2.1]? = some (.int (M : Int)) := List.getElem?_set_self lj
        generalize hG2 : upd G1 D (HO.lst ((ns.map V.int).set x.2.1 (.int (M : Int)))) = G2 at e2 ⊢
        have cm2 : ∀ b : Bool, CMulW ((p : Int) + r) (if b = true then 1 else 0) := fun b => wide_mul (a := 130) (b := 2) (by omega) (by cases b <;> decide) (by decide) (by decide) (by decide)
        refine ⟨_, rfl, _, rfl, D, _, (x.2.1 : Int), .int (M : Int), rfl, rfl, SqL.of e2, atI_nat g2, ?_⟩
        refine ⟨_, rfl, _, rfl, _, rfl, D, _, (x.2.1 : Int), .int (M : Int), rfl, rfl, SqL.of e2, atI_nat g2, rfl, .inr ⟨_, rfl, _, _, rfl, rfl, cm2 _, _, _, rfl, rfl, _, rfl, _, rfl, D, _, (x.2.1 : Int), x.2.1, rfl, rfl, e2, ixN_nat (by rw [List.length_set]; exact lj), ?_⟩⟩
        rw [decI, List.set_set]
        obtain ⟨N, hN⟩ : ∃ N : Int, (M : Int) + ((p : Int) + r) * (if decide ((M : Int) = 0) = true then 1 else 0) = N := ⟨_, rfl⟩
        dsimp only
        rw [hN]
        have hrun : (((ns.map V.int).set x.2.1 (.int N)).set x.1 (.int ((p : Int) + r - N))) = (runT ns x).map V.int := by
          rw [sp, List.set_comm _ _ (Ne.symm T.ne)]
          by_cases z : 0 < M
          · rw [if_neg (by intro w; have := of_decide_eq_true w; omega)] at hN
            rw [if_pos z, List.map_set, List.map_set, show N = M by omega]
          · rw [if_pos (decide_eq_true (by omega))] at hN
            rw [if_neg z, List.map_set, List.map_set, show N = (p : Int) + r by omega, show (p : Int) + r - (p + r) = 0 by omega]
        have e3 : upd G2 D (.lst ((ns.map V.int).set x.2.1 (.int N))) D = some (.lst ((ns.map V.int).set x.2.1 (.int N))) := upd_same
        have g3 : ((ns.map V.int).set x.2.1 (.int N))[x.2.1]? = some (.int N) := List.getElem?_set_self lj
        generalize hG3 : upd G2 D (HO.lst ((ns.map V.int).set x.2.1 (.int N))) = G3 at e3 ⊢
        refine ⟨_, rfl, _, rfl, _, rfl, D, _, (x.2.1 : Int), .int N, rfl, rfl, SqL.of e3, atI_nat g3, _, _, rfl, rfl, _, rfl, _, rfl, D, _, (x.1 : Int), x.1, rfl, rfl, e3, ixN_nat (by rw [List.length_set]; exact li), ?_⟩
        dsimp only
        rw [hrun]
        have off : ∀ c o, H2 c = some o → upd G3 D (.lst ((runT ns x).map V.int)) c = some o := fun c o hc => by
          have nc : c ≠ D := fun z => by rw [z, nD] at hc; cases hc
          rw [upd_ne nc, ← hG3, upd_ne nc, ← hG2, upd_ne nc]
          exact s1 _ _ hc
        have e4 : upd G3 D (.lst ((runT ns x).map V.int)) D = some (.lst ((runT ns x).map V.int)) := upd_same
        generalize upd G3 D (HO.lst ((runT ns x).map V.int)) = G4 at off e4 ⊢
        refine ⟨_, rfl, D, _, rfl, .inl ⟨SqL.of e4, fun u nu => ⟨by show 1 ≤ sizeLine; decide, fun l nl => ?_⟩⟩⟩
        have s4 : Same H2 G4 := off
        have s5 := s4.trans (same_upd nu (o := .tup ((runT ns x).map V.int)))
        have nlu : l ≠ u := fun z => by rw [z, upd_same] at nl; cases nl
        exact q l u _ (s5.trans (same_upd nl)) (s5.free nl) (s4.free nu) upd_same (by rw [upd_ne (Ne.symm nlu), upd_same])
    · rintro σ H2 Q1 Q2 hq ⟨y, e1, i, j, e2, e3, z, e4, u, e5, h⟩
      exact ⟨y, e1, i, j, e2, e3, z, e4, u, e5, hq _ _ h⟩
end
end K70

namespace K70
open PySem PySem.Spec PyProof.Rows L2 MG LamX
abbrev sHad : Stmt := topS 28
abbrev nHad : List Str := ["_law_row", "_law_place", "_law_amount"]
theorem scHad : FnScope ["_law_row", "_law_place", "_law_amount"] ["_law_row"] (defScope sHad) := ⟨rfl, rfl, rfl, by decide +kernel, rfl, by decide +kernel, by decide +kernel⟩
abbrev sTens : Stmt := topS 33
abbrev nTens : List Str := ["_law_size", "_law_found", "_law_turn"]
theorem scTens : FnScope ["_law_size", "_law_found", "_law_turn"] ["_law_size"] (defScope sTens) := ⟨rfl, rfl, rfl, by decide +kernel, rfl, by decide +kernel, by decide +kernel⟩
section
variable {P : Program} {w : World} {K : PySem.W.Frag} {mg : Str → Option Value} {base : Heap}
def spHad : Sp := fun vs H Q _ => ∃ a ns, vs = [.ref a] ∧ H a = some (.tup (ns.map V.int)) ∧ ns.length ≤ 40 ∧
  ∀ H' p, Same H H' → H' p = some (.tup ((hold ns ns.length).map V.int)) → Q (.ref p) H'
theorem ok_had {f : Addr} {fd : FuncData} {k : Nat} (F : Fun K "_law_had" "_law_had" sHad f fd) (mT : mg "tuple" = none) (mE : mg "enumerate" = none) :
    FnOk P w K mg base CX0 (k + 1) f fd ["_law_row"] spHad := by
  refine F.ok scHad (fun vs H Q E h => ?_) (fun cdv A outer s H vs Q E hr h => ?_)
  · obtain ⟨a, ns, rfl, _⟩ := h
    rfl
  · obtain ⟨a, ns, rfl, e, hl, q⟩ := h
    refine ⟨_, pss_one (ps_ret (pe_callTy call_tuple_of (by rfl) mT (by decide +kernel) (pa_cons
      (pe_lc (own := [("_law_place", 1), ("_law_amount", 2)]) (g := gTup K 2 (gCons (gName 1) (gCons (gName 2) gNil))) rfl scHad.nd (pi_enumT (by rfl) mE (pa_cons (pv 0) pa_nil))
        (blkOk_by (N := ["_law_row", "_law_place", "_law_amount"]) (sc := defScope sHad) (by decide +kernel))
        (fun _ _ _ _ _ => pg_tup rfl (pgs_cons (pg_name (i := 1) scHad.nd rfl (.inl rfl) (.inr rfl)) (pgs_cons (pg_name (i := 2) scHad.nd rfl (.inl rfl) (.inr rfl)) pgs_nil)))
        (fun _ _ _ _ _ => pts_one (pt_cmpR op_gt (pv 2) pe_int (nomark _)))
        (fun _ _ _ _ _ => pv 1)) pa_nil))), ?_⟩
    have hS : SqT K H a (ns.map V.int) := SqT.of e
    refine ⟨.ref a, rfl, a, ns.map V.int, rfl, hS, fun D nD => ?_⟩
    refine lc_it (walk_enumT (K := K) (a := a) (xs := ns.map V.int)) (fun i H' => Same H H' ∧ H' D = some (.lst ((hold ns i).map V.int))) ⟨same_upd nD, upd_same⟩ ?_ ?_ ?_
    · intro i H' _ h
      exact SqT.of (h.1 _ _ e)
    · rintro i x H' H'' hi ⟨sm, hD⟩ ⟨T, x1, x2, rfl, nT, rfl, e1, e2⟩
      rw [List.length_map] at hi
      have e1' : x1 = .int (i : Nat) := (Option.some.inj e1).symm
      have e2' : x2 = .int ns[i] := by
        have z : (ns.map V.int)[i]? = some x2 := e2
        rw [List.getElem?_map, List.getElem?_eq_getElem hi] at z
        exact (Option.some.inj z).symm
      subst e1' e2'
      have smT : Same H' (upd H' T (.tup [.int (i : Nat), .int ns[i]])) := same_upd nT
      have hg : ns.getD i 0 = ns[i] := by rw [List.getD_eq_getElem?_getD, List.getElem?_eq_getElem hi]; rfl
      refine ⟨T, [.int (i : Nat), .int ns[i]], rfl, .inl (.inl upd_same), rfl, .int (i : Nat), [.int ns[i]], rfl, .int ns[i], [], rfl, rfl, rfl, _, rfl, ns[i], 0, rfl, rfl, _, rfl, ?_⟩
      refine ite2 (fun hp => ?_) (fun hp => ?_)
      · have hp' : 0 < ns[i] := of_decide_eq_true hp
        refine ⟨.int (i : Nat), rfl, _, smT _ _ hD, ?_, ?_, ?_⟩
        · rw [List.length_map]
          exact small1000 (Nat.le_trans (hold_len ns i) (by omega))
        · intro c o hc
          rw [upd_ne (ne_of_none hc nD)]
          exact smT _ _ (sm c o hc)
        · rw [upd_same, hold_succ, hg, if_pos hp', List.map_append]
          rfl
      · have hp' : ¬ 0 < ns[i] := fun z => hp (decide_eq_true z)
        refine ⟨sm.trans smT, ?_⟩
        rw [hold_succ, hg, if_neg hp', List.append_nil]
        exact smT _ _ hD
    · rintro H' ⟨sm, hD⟩
      rw [List.length_map] at hD
      refine ⟨D, _, rfl, .inl ⟨.inl (.inl hD), fun p np => ?_⟩⟩
      exact q _ p (sm.trans (same_upd np)) upd_same

def spTens : Sp := fun vs H Q _ => ∃ n : Nat, vs = [.int n] ∧ n ≤ 100 ∧ Q (.int ((10 ^ n : Nat) : Int)) H
theorem ok_tens {f : Addr} {fd : FuncData} {k : Nat} (F : Fun K "_law_tens" "_law_tens" sTens f fd) (m_range : mg "range" = none) : FnOk P w K mg base CX0 (k + 1) f fd ["_law_size"] spTens := by
  refine F.ok scTens (fun vs H Q E h => ?_) (fun cdv A outer s H vs Q E hr h => ?_)
  · obtain ⟨n, rfl, _⟩ := h
    rfl
  · obtain ⟨n, rfl, hn, q⟩ := h
    refine ⟨_, pss_cons (ps_set (i := 1) scTens.nd rfl (.inl rfl) pe_int)
      (pss_cons (ps_for PassesOwn.never rfl (pi_range1 (by rfl) m_range (pa_cons (pv 0) pa_nil)) (pg_name (i := 2) scTens.nd rfl (.inl rfl)) (pss_one (ps_set (i := 1) scTens.nd rfl (.inl rfl) (pe_op op_mulW (pv 1) pe_int))))
      (pss_one (ps_ret (pv 1)))), ?_⟩
    refine ⟨_, rfl, n, rfl, by omega, by omega, ?_⟩
    refine for_range (lo := 0) (n := _) (fun i σ H' => ∃ y, σ = [some (.int n), some (.int ((10 ^ i : Nat) : Int)), y] ∧ H' = H) ⟨_, rfl, rfl⟩ ?_ ?_
    · rintro i σ H' hi ⟨y, rfl, rfl⟩
      have hin : i < n := by omega
      have cw : CMulW ((10 ^ i : Nat) : Int) 10 := wide_mul (a := 400) (b := 4) (by
        rw [Int.natAbs_natCast]
        calc 10 ^ i ≤ 10 ^ 100 := Nat.pow_le_pow_right (by decide) (by omega)
          _ < 2 ^ 400 := by decide +kernel) (by decide) (by decide) (by decide) (by decide)
      refine ⟨_, rfl, _, 10, rfl, rfl, cw, ⟨some (.int (0 + (i : Int))), ?_, rfl⟩⟩
      rw [Nat.pow_succ, Int.natCast_mul]
      rfl
    · rintro σ H' ⟨y, rfl, rfl⟩
      exact ⟨_, rfl, q⟩
end
end K70

namespace K70
open PySem PySem.Spec PyProof.Rows L2 MG LamX
abbrev sGreat : Stmt := topS 32
abbrev nGreat : List Str := ["_law_box_here", "_law_least", "_law_greatest_here", "_law_figures", "_law_many", "_law_share", "_law_found", "_law_way", "_law_turn", "_law_size", "_law_amount"]
theorem scGreat : FnScope ["_law_box_here", "_law_least", "_law_greatest_here", "_law_figures", "_law_many", "_law_share", "_law_found", "_law_way", "_law_turn", "_law_size", "_law_amount"] ["_law_box_here", "_law_least", "_law_greatest_here", "_law_figures"] (defScope sGreat) := ⟨rfl, rfl, rfl, by decide +kernel, rfl, by decide +kernel, by decide +kernel⟩
section
variable {P : Program} {w : World} {K : PySem.W.Frag} {mg : Str → Option Value} {base : Heap}
theorem map_setL {l : List Int} {i : Nat} {v : Int} : (l.map V.int).set i (V.int v) = (l.set i v).map V.int := by rw [List.map_set]
def spGreat : Sp := fun vs H Q _ => ∃ (b : Addr) (least greatest figures : Int) (n : Nat), vs = [.ref b, .int least, .int greatest, .int figures] ∧ Box H b n ∧ n ≤ 800000 ∧ 1 ≤ least ∧ least ≤ greatest ∧ greatest ≤ 11 ∧ 1 ≤ figures ∧ figures ≤ 27 ∧
  ∀ p H' (ns : List Int), H p = none → ns.length ≤ 12 → (∀ x ∈ ns, 0 ≤ x ∧ x ≤ 12 * (((10 ^ figures.toNat : Nat) : Int) + 1)) → (∃ x ∈ ns, 0 < x) → (ns.length ≤ greatest + 1) → (least ≤ MG.cnt ns ∧ (MG.cnt ns : Int) ≤ greatest) → Box H' b (n + 200) → SX b H H' → H' p = some (.tup (ns.map V.int)) → Q (.ref p) H'
theorem ok_great {f fT fO fP fTe : Addr} {fd fdT fdO fdP fdTe : FuncData} {k : Nat} (F : Fun K "_law_great" "_law_great" sGreat f fd)
    (FT : Fun K "_law_take" "_law_take" sTake fT fdT) (bT : Binds K fdT ["_law_box_here", "_law_many"] []) (gT : mg "_law_take" = some (.ref fT))
    (FO : Fun K "_law_of" "_law_of" sOf fO fdO) (bO : Binds K fdO ["_law_box_here", "_law_some"] []) (gO : mg "_law_of" = some (.ref fO))
    (FP : Fun K "_law_places" "_law_places" sPlaces fP fdP) (bP : Binds K fdP ["_law_box_here", "_law_amounts", "_law_nothing"] []) (gP : mg "_law_places" = some (.ref fP)) (GP : FnOk P w K mg base CX0 (k + 2) fP fdP ["_law_box_here", "_law_amounts", "_law_nothing"] spPlaces)
    (FTe : Fun K "_law_tens" "_law_tens" sTens fTe fdTe) (bTe : Binds K fdTe ["_law_size"] []) (gTe : mg "_law_tens" = some (.ref fTe)) (GTe : FnOk P w K mg base CX0 (k + 1) fTe fdTe ["_law_size"] spTens)
    (m_len : mg "len" = none) (m_range : mg "range" = none) : FnOk P w K mg base CX0 (k + 3) f fd ["_law_box_here", "_law_least", "_law_greatest_here", "_law_figures"] spGreat := by
  have GT : FnOk P w K mg base CX0 (k + 1) fT fdT ["_law_box_here", "_law_many"] spTake := ok_take FT
  have GO : FnOk P w K mg base CX0 (k + 2) fO fdO ["_law_box_here", "_law_some"] spOf := ok_of FO FT bT gT m_len
  refine F.ok scGreat (fun vs H Q E h => ?_) (fun cdv A outer s H vs Q E hr h => ?_)
  · obtain ⟨b, least, greatest, figures, n, rfl, _⟩ := h
    rfl
  · obtain ⟨b, least, greatest, figures, n, rfl, hB, hn, a1, a2, a3, a4, a5, q⟩ := h
    have hr2 := hr
    have hr1 := hr.mono (show k + 1 ≤ k + 2 by omega)
    refine ⟨_, pss_cons (ps_asg (pe_tup (pa_cons (pe_op op_add (pv 1) (pe_call GT hr1 (by rfl) gT FT.kp bT .nil pass0 (pa_cons (pv 0) (pa_cons (pe_op op_add (pe_op op_sub (pv 2) (pv 1)) pe_int) pa_nil)))) (pa_cons (pe_call GO hr2 (by rfl) gO FO.kp bO .nil pass0 (pa_cons (pv 0) (pa_cons (pe_lst (pa_cons pe_int (pa_cons pe_int (pa_cons pe_int (pa_cons pe_int (pa_cons pe_int (pa_cons pe_int pa_nil))))))) pa_nil))) pa_nil))) (pg_tup rfl (pgs_cons (pg_name (i := 4) scGreat.nd rfl (.inl rfl)) (pgs_cons (pg_name (i := 5) scGreat.nd rfl (.inr rfl)) pgs_nil))))
      (pss_cons (ps_par (i := 6) (j := 7) rfl scGreat.nd rfl rfl (by decide) rfl rfl (pa_cons (pe_lst pa_nil) (pa_cons (pe_call GT hr1 (by rfl) gT FT.kp bT .nil pass0 (pa_cons (pv 0) (pa_cons pe_int pa_nil))) pa_nil)) (by rfl))
      (pss_cons (ps_for PassesOwn.never rfl (pi_range1 (by rfl) m_range (pa_cons (pv 4) pa_nil)) (pg_name (i := 8) scGreat.nd rfl (.inl rfl)) (pss_cons (ps_set (i := 9) scGreat.nd rfl (.inl rfl) (pe_call GO hr2 (by rfl) gO FO.kp bO .nil pass0 (pa_cons (pv 0) (pa_cons (pe_lst (pa_cons (pv 3) (pa_cons (pv 3) (pa_cons pe_int (pa_cons (pe_op op_add pe_int (pe_call GT hr1 (by rfl) gT FT.kp bT .nil pass0 (pa_cons (pv 0) (pa_cons (pv 3) pa_nil)))) pa_nil))))) pa_nil))))
      (pss_cons (ps_set (i := 10) scGreat.nd rfl (.inl rfl) (pe_op op_add (pe_op op_add (pe_op op_add pe_int (pe_op op_mulW (pe_call GT hr1 (by rfl) gT FT.kp bT .nil pass0 (pa_cons (pv 0) (pa_cons (pe_op op_pow pe_int pe_int) pa_nil))) (pe_op op_pow pe_int pe_int))) (pe_op op_mulW (pe_call GT hr1 (by rfl) gT FT.kp bT .nil pass0 (pa_cons (pv 0) (pa_cons (pe_op op_pow pe_int pe_int) pa_nil))) (pe_op op_pow pe_int pe_int))) (pe_call GT hr1 (by rfl) gT FT.kp bT .nil pass0 (pa_cons (pv 0) (pa_cons (pe_op op_pow pe_int pe_int) pa_nil)))))
      (pss_one (ps_expr (pe_bm PySem.F.plainAttrs_list PySem.F.slot_list_append PySem.F.type_list_append mt_append (pv 6) (pa_cons (pe_op op_add pe_int (pe_op op_mod (pe_op op_mulW (pv 10) (pe_op op_add (pv 10) pe_int)) (pe_call GTe hr1 (by rfl) gTe FTe.kp bTe .nil pass0 (pa_cons (pv 9) pa_nil)))) pa_nil)))))))
      (pss_mid (ps_if (pt_cmpR op_eq (pv 7) pe_int (nomark _)) (pss_one (ps_setLc (i := 6) (own := [("_law_amount", 10)]) (g := gName 10) (tt := tYes) rfl scGreat.nd rfl rfl (sw_true rfl rfl rfl (by decide +kernel)) (pi_list (pv 6)) (blkOk_by (N := nGreat) (sc := defScope sGreat) (by decide +kernel)) (fun _ _ _ _ _ => pg_name (i := 10) scGreat.nd rfl (Or.inl rfl)) (fun _ _ _ _ _ => pts_nil) (fun _ _ _ _ _ => pe_op op_add (pe_op op_mulW pe_int (pe_op op_fdivW (pv 10) pe_int)) pe_int))) pss_nil)
      (pss_mid (ps_if (pt_cmpR op_eq (pv 7) pe_int (nomark _)) (pss_one (ps_set (i := 6) scGreat.nd rfl (.inl rfl) (pe_op op_rep (pe_lst (pa_cons (pe_ix ix_list (pv 6) pe_int (fun _ _ => rfl)) pa_nil)) (pv 4)))) pss_nil)
      (pss_mid (ps_if (pt_cmpR op_eq (pv 7) pe_int (nomark _)) (pss_one (ps_asg (pe_op op_shlN pe_int (pe_call GT hr1 (by rfl) gT FT.kp bT .nil pass0 (pa_cons (pv 0) (pa_cons (pe_op op_mulW pe_int (pv 3)) pa_nil)))) (pg_sub (pv 6) pe_int set_list))) pss_nil)
      (pss_one (ps_ret (pe_call GP hr2 (by rfl) gP FP.kp bP .nil pass0 (pa_cons (pv 0) (pa_cons (pe_lc (own := [("_law_amount", 10)]) (g := gName 10) (tt := tYes) rfl scGreat.nd (pi_list (pv 6)) (blkOk_by (N := nGreat) (sc := defScope sGreat) (by decide +kernel)) (fun _ _ _ _ _ => pg_name (i := 10) scGreat.nd rfl (Or.inl rfl)) (fun _ _ _ _ _ => pts_nil) (fun _ _ _ _ _ => pe_op op_mulW (pv 5) (pv 10))) (pa_cons (pe_call GO hr2 (by rfl) gO FO.kp bO .nil pass0 (pa_cons (pv 0) (pa_cons (pe_lst (pa_cons pe_int (pa_cons pe_int (pa_cons pe_int pa_nil)))) pa_nil))) pa_nil))))))))))), ?_⟩
    obtain ⟨bo, bz⟩ := hB.get
    obtain ⟨B, eB⟩ : ∃ B : Int, ((10 ^ figures.toNat : Nat) : Int) = B := ⟨_, rfl⟩
    have B27 : B ≤ 10 ^ 27 := by
      rw [← eB]
      have : 10 ^ figures.toNat ≤ 10 ^ 27 := Nat.pow_le_pow_right (by decide) (by omega)
      exact_mod_cast this
    have B0 : 0 ≤ B := by rw [← eB]; exact Int.natCast_nonneg _
    rw [eB] at q
    refine ⟨_, rfl, _, rfl, _, rfl, _, rfl, greatest, least, rfl, rfl, _, 1, rfl, rfl, b, greatest - least + 1, n, rfl, hB, by omega, by omega, by omega, fun r1 H1 r10 r11 hB1 k1 => ⟨least, r1, rfl, rfl, ?_⟩⟩
    have x1 := SX.of_eq k1
    obtain ⟨bo1, bz1⟩ := hB1.get
    refine ⟨_, rfl, by show 6 ≤ sizeLine; decide, fun l nl => ?_⟩
    refine ⟨b, l, n + 1, _, rfl, hB1.new nl, by omega, upd_same, ne_of_none bz1 nl, by show 1 ≤ 6; decide, by show 6 ≤ 1000; decide, fun sc H3 hsc hB3 k3 => ?_⟩
    obtain ⟨share, rfl, sc1, sc2⟩ : ∃ v : Int, sc = .int v ∧ 1 ≤ v ∧ v ≤ 12 := by
      simp only [List.mem_cons, List.not_mem_nil, or_false] at hsc
      rcases hsc with h | h | h | h | h | h <;> exact ⟨_, h, by decide, by decide⟩
    have x3 : SX b H H3 := (x1.new nl).trans (.of_eq k3)
    refine ⟨by show 2 ≤ sizeLine; decide, fun tp ntp => ?_⟩
    obtain ⟨many, hmany⟩ : ∃ m, least + r1 = m := ⟨_, rfl⟩
    refine ⟨tp, _, rfl, SqT.of upd_same, rfl, .int (least + r1), [.int share], rfl, .int share, [], rfl, rfl, ?_⟩
    have x4 : SX b H (upd H3 tp (.tup [.int (least + r1), .int share])) := x3.new ntp
    have hB4 : Box (upd H3 tp (.tup [.int (least + r1), .int share])) b (n + 1 + 1) := hB3.new ntp
    generalize upd H3 tp (HO.tup [V.int (least + r1), V.int share]) = H4 at x4 hB4 ⊢
    rw [hmany]
    refine ⟨by show 0 ≤ sizeLine; decide, fun fl nfl => ?_⟩
    have hB5 := hB4.new nfl (o := .lst [])
    have x5 := x4.new nfl (o := .lst [])
    have nfl0 : H fl = none := x4.free hB4 nfl
    have e5 : upd H4 fl (.lst []) fl = some (.lst []) := upd_same
    generalize upd H4 fl (HO.lst []) = H5 at hB5 x5 e5 ⊢
    have nfb : fl ≠ b := fun z => by rw [z, bz] at nfl0; cases nfl0
    refine ⟨_, rfl, b, 5, n + 2, rfl, hB5, by omega, by decide, by decide, fun way H6 w0 w1 hB6 k6 => ?_⟩
    have e6 : H6 fl = some (.lst []) := by rw [k6 fl nfb]; exact e5
    have x6 := x5.trans (.of_eq k6)
    have hm1 : 1 ≤ many := by omega
    have hm2 : many ≤ 11 := by omega
    refine ⟨_, _, rfl, _, rfl, many, rfl, by omega, by omega, ?_⟩
    refine for_range (lo := 0) (n := _) (fun i σ H' => ∃ (xs : List Int) (y8 y9 y10 : Option V), σ = [some (.ref b), some (.int least), some (.int greatest), some (.int figures), some (.int many), some (.int share), some (.ref fl), some (.int way), y8, y9, y10] ∧ H' fl = some (.lst (xs.map V.int)) ∧ xs.length = i ∧ (∀ x ∈ xs, 1 ≤ x ∧ x ≤ B) ∧ Box H' b (n + 3 + 5 * i) ∧ SX b H H') ⟨[], _, _, _, rfl, e6, rfl, fun x hx => (by cases hx), hB6, x6⟩ ?_ ?_
    · rintro i σ H7 hi ⟨xs, y8, y9, y10, rfl, e7, hxl, hx, hB7, x7⟩
      have hi' : i < 11 := by omega
      generalize hN : n + 3 + 5 * i = N at hB7
      have cp9 : CPow 10 9 := ⟨by decide, by decide, by decide⟩
      have cp18 : CPow 10 18 := ⟨by decide, by decide, by decide⟩
      refine ⟨_, rfl, _, rfl, _, rfl, _, rfl, _, rfl, b, figures, N, rfl, hB7, by omega, by omega, by omega, fun s0 H8 s00 s01 hB8 k8 => ⟨1, s0, rfl, rfl, by show 4 ≤ sizeLine; decide, fun l2 nl2 => ?_⟩⟩
      obtain ⟨bo8, bz8⟩ := hB8.get
      refine ⟨b, l2, N + 1, _, rfl, hB8.new nl2, by omega, upd_same, ne_of_none bz8 nl2, by show 1 ≤ 4; decide, by show 4 ≤ 1000; decide, fun sz H9 hsz hB9 k9 => ?_⟩
      obtain ⟨size, rfl, z1, z2⟩ : ∃ v : Nat, sz = .int (v : Int) ∧ 1 ≤ v ∧ v ≤ figures.toNat := by
        have mk : ∀ v : Int, sz = .int v → 1 ≤ v → v ≤ figures → ∃ v : Nat, sz = .int (v : Int) ∧ 1 ≤ v ∧ v ≤ figures.toNat := fun v e h1 h2 => ⟨v.toNat, by rw [e, Int.toNat_of_nonneg (by omega)], by omega, by omega⟩
        simp only [List.mem_cons, List.not_mem_nil, or_false] at hsz
        rcases hsz with h | h | h | h
        · exact mk _ h a4 (Int.le_refl _)
        · exact mk _ h a4 (Int.le_refl _)
        · exact mk _ h (by omega) (by omega)
        · exact mk _ h (by omega) (by omega)
      have x8 := x7.trans (.of_eq k8)
      have x9 := (x8.new nl2).trans (.of_eq k9)
      have e9 : H9 fl = some (.lst (xs.map V.int)) := by
        rw [k9 fl nfb, upd_ne (fun z => by rw [z] at e7; rw [k8 l2 (fun y => by rw [y, bz8] at nl2; cases nl2), e7] at nl2; cases nl2), k8 fl nfb]; exact e7
      refine ⟨_, rfl, 10, 9, rfl, rfl, cp9, b, _, N + 2, rfl, hB9, by omega, by decide, by decide, fun t1 G1 t10 t11 hG1 g1 => ?_⟩
      have t11' : t1 < 10 ^ 9 := t11
      refine ⟨10, 9, rfl, rfl, cp9, t1, _, rfl, rfl, wide_mul (a := 40) (b := 40) (by omega) (by decide) (by decide) (by decide) (by decide), 1, _, rfl, rfl, ?_⟩
      refine ⟨_, rfl, 10, 9, rfl, rfl, cp9, b, _, N + 3, rfl, hG1, by omega, by decide, by decide, fun t2 G2 t20 t21 hG2 g2 => ?_⟩
      have t21' : t2 < 10 ^ 9 := t21
      refine ⟨10, 18, rfl, rfl, cp18, t2, _, rfl, rfl, wide_mul (a := 40) (b := 80) (by omega) (by decide) (by decide) (by decide) (by decide), _, _, rfl, rfl, ?_⟩
      refine ⟨_, rfl, 10, 9, rfl, rfl, cp9, b, _, N + 4, rfl, hG2, by omega, by decide, by decide, fun t3 G3 t30 t31 hG3 g3 => ?_⟩
      have t31' : t3 < 10 ^ 9 := t31
      refine ⟨_, t3, rfl, rfl, ?_⟩
      obtain ⟨am, eam, am0, am1⟩ : ∃ am : Int, 1 + t1 * 10 ^ (9 : Int).toNat + t2 * 10 ^ (18 : Int).toNat + t3 = am ∧ 0 < am ∧ am < 10 ^ 30 := by
        refine ⟨_, rfl, ?_, ?_⟩
        · show 0 < 1 + t1 * 10 ^ 9 + t2 * 10 ^ 18 + t3
          omega
        · show 1 + t1 * 10 ^ 9 + t2 * 10 ^ 18 + t3 < 10 ^ 30
          omega
      dsimp only
      rw [eam]
      have e10 : G3 fl = some (.lst (xs.map V.int)) := by rw [g3 fl nfb, g2 fl nfb, g1 fl nfb]; exact e9
      have x10 := ((x9.trans (.of_eq g1)).trans (.of_eq g2)).trans (.of_eq g3)
      have cw : CMulW am (am + 7) := wide_mul (a := 120) (b := 120) (by omega) (by omega) (by decide) (by decide) (by decide)
      have tp : (0 : Int) < ((10 ^ size : Nat) : Int) := Int.natCast_pos.mpr (Nat.pow_pos (by decide))
      refine ⟨_, rfl, .inl ⟨rfl, _, SqL.of e10⟩, _, rfl, _, rfl, am, 7, rfl, rfl, am, _, rfl, rfl, cw, _, rfl, size, rfl, by omega, _, _, rfl, rfl, tp, 1, _, rfl, rfl, ?_⟩
      have hlo := Int.emod_nonneg (am * (am + 7)) (Int.ne_of_gt tp)
      have hhi := Int.emod_lt_of_pos (am * (am + 7)) tp
      have h27 : ((10 ^ size : Nat) : Int) ≤ B := by
        rw [← eB]
        have : 10 ^ size ≤ 10 ^ figures.toNat := Nat.pow_le_pow_right (by decide) z2
        exact_mod_cast this
      obtain ⟨v, ev, v1, v2⟩ : ∃ v : Int, 1 + am * (am + 7) % ((10 ^ size : Nat) : Int) = v ∧ 1 ≤ v ∧ v ≤ B := ⟨_, rfl, by omega, by omega⟩
      dsimp only
      rw [ev]
      have slen : (xs.map V.int).length < sizeLine := by rw [List.length_map]; exact small1000 (by omega)
      refine ⟨fl, _, _, rfl, rfl, e10, slen, xs ++ [v], _, _, _, rfl, by rw [upd_same, List.map_append]; rfl, by rw [List.length_append, hxl]; rfl, fun x hm => ?_, ?_, ?_⟩
      · rcases List.mem_append.mp hm with h | h
        · exact hx x h
        · rw [List.mem_singleton.mp h]; exact ⟨v1, v2⟩
      · exact (hG3.set (Ne.symm nfb)).le (by omega)
      · intro c o nc hc
        rw [upd_ne (ne_of_none hc nfl0)]
        exact x10 c o nc hc
    rintro σ H7 ⟨xs, y8, y9, y10, rfl, e7, hxl, hx, hB7, x7⟩
    have hxl' : (xs.length : Int) = many := by rw [hxl]; omega
    have hB7' := hB7.le (show n + 3 + 5 * many.toNat ≤ n + 60 by omega)
    let J : Nat → L2.St → Hp → Prop := fun m σ H' => ∃ (pa : Addr) (xs : List Int) (y8 y9 y10 : Option V), σ = [some (.ref b), some (.int least), some (.int greatest), some (.int figures), some (.int many), some (.int share), some (.ref pa), some (.int way), y8, y9, y10] ∧ H pa = none ∧ H' pa = some (.lst (xs.map V.int)) ∧ (xs.length : Int) = many ∧ (∀ x ∈ xs, 1 ≤ x ∧ x ≤ B + 1) ∧ Box H' b m ∧ SX b H H'
    have stay : ∀ {m : Nat} {H1 H2 : Hp}, SX b H H1 → Box H1 b m → Same H1 H2 → Box H2 b m ∧ SX b H H2 := fun x hB sm => by
      obtain ⟨o, z⟩ := hB.get
      exact ⟨hB.at (by rw [sm _ _ z, z]), x.trans (.of_same sm)⟩
    refine ⟨J (n + 60), ?_, ?_⟩
    · refine ⟨_, rfl, rfl, _, rfl, ite2 (fun _ => ?_) (fun _ => ⟨fl, xs, _, _, _, rfl, nfl0, e7, hxl', fun x h => by have := hx x h; omega, hB7', x7⟩)⟩
      refine ⟨.ref fl, rfl, fl, rfl, ⟨_, SqL.of e7⟩, fun D nD => ?_⟩
      refine lc_list (K := K) (a := fl) (xs := xs.map V.int) (fun i H' => Same H7 H' ∧ H' D = some (.lst (((xs.take i).map fun x => 2 * (x / 2) + 1).map V.int))) ⟨same_upd nD, upd_same⟩ ?_ ?_ ?_
      · rintro i H' _ ⟨sm, _⟩
        exact SqL.of (sm _ _ e7)
      · rintro i x H' hx' ⟨sm, hD⟩
        rw [List.getElem?_map] at hx'
        obtain ⟨v, hv, rfl⟩ := Option.map_eq_some_iff.mp hx'
        have vb := hx v (List.mem_of_getElem? hv)
        refine ⟨rfl, _, rfl, v, 2, rfl, rfl, wide_div (b := 100) (by omega) (by decide) (by decide) (by decide), 2, _, rfl, rfl, wide_mul (a := 3) (b := 100) (by decide) (by omega) (by decide) (by decide) (by decide), _, 1, rfl, rfl, _, hD, ?_, ?_, ?_⟩
        · rw [List.length_map, List.length_map, List.length_take]
          exact small1000 (by omega)
        · intro c o hc
          rw [upd_ne (ne_of_none hc nD)]
          exact sm c o hc
        · rw [upd_same, List.take_add_one, hv, List.map_append, List.map_append]
          rfl
      · rintro H' ⟨sm, hD⟩
        rw [List.length_map, List.take_length] at hD
        obtain ⟨hB8, x8⟩ := stay x7 hB7' sm
        refine ⟨D, xs.map fun x => 2 * (x / 2) + 1, _, _, _, rfl, x7.free hB7 nD, hD, by rw [List.length_map]; exact hxl', ?_, hB8, x8⟩
        intro y hy
        obtain ⟨z, hz, rfl⟩ := List.mem_map.mp hy
        have := hx z hz
        omega
    rintro σ H8 ⟨pa, xs8, y8, y9, y10, rfl, npa, e8, l8, hx8, hB8, x8⟩
    have h0 : 0 < xs8.length := by omega
    refine ⟨J (n + 60), ?_, ?_⟩
    · refine ⟨_, rfl, rfl, _, rfl, ite2 (fun _ => ?_) (fun _ => ⟨pa, xs8, _, _, _, rfl, npa, e8, l8, hx8, hB8, x8⟩)⟩
      refine ⟨.ref pa, rfl, pa, _, 0, .int xs8[0], rfl, rfl, SqL.of e8, atI_nat (j := 0) (by rw [List.getElem?_map, List.getElem?_eq_getElem h0]; rfl), by show 1 ≤ sizeLine; decide, fun l2 n2 => ?_⟩
      refine ⟨_, rfl, l2, many, [.int xs8[0]], rfl, rfl, upd_same, by omega, by omega, by show 1 * many.toNat ≤ sizeLine; rw [sizeLine_eq]; omega, fun l3 n3 => ?_⟩
      have er : (List.replicate many.toNat [V.int xs8[0]]).flatten = (List.replicate many.toNat xs8[0]).map V.int := by
        induction many.toNat with
        | zero => rfl
        | succ m ih => rw [List.replicate_succ, List.flatten_cons, ih, List.replicate_succ]; rfl
      rw [er]
      have sm := (same_upd n2 (o := .lst [.int xs8[0]])).trans (same_upd n3 (o := .lst ((List.replicate many.toNat xs8[0]).map V.int)))
      obtain ⟨hB9, x9⟩ := stay x8 hB8 sm
      refine ⟨l3, List.replicate many.toNat xs8[0], _, _, _, rfl, x8.free hB8 ((same_upd n2).free n3), upd_same, by rw [List.length_replicate]; omega, ?_, hB9, x9⟩
      intro y hy
      rw [List.eq_of_mem_replicate hy]
      exact hx8 _ (List.getElem_mem h0)
    clear h0 hB8 x8 e8 l8 hx8 npa
    rintro σ H9 ⟨pa, xs9, y8, y9, y10, rfl, npa, e9, l9, hx9, hB9, x9⟩
    have h0 : 0 < xs9.length := by omega
    refine ⟨J (n + 61), ?_, ?_⟩
    · refine ⟨_, rfl, rfl, _, rfl, ite2 (fun _ => ?_) (fun _ => ⟨pa, xs9, _, _, _, rfl, npa, e9, l9, hx9, hB9.le (by omega), x9⟩)⟩
      have c3 : CMulW 3 figures := wide_mul (a := 3) (b := 6) (by decide) (by omega) (by decide) (by decide) (by decide)
      refine ⟨_, rfl, _, rfl, 3, figures, rfl, rfl, c3, b, 3 * figures, n + 60, rfl, hB9, by omega, by omega, by omega, fun r0 G1 r00 r01 hG1 g1 => ?_⟩
      obtain ⟨r, rfl⟩ : ∃ r : Nat, r0 = (r : Int) := ⟨r0.toNat, by omega⟩
      have hr80 : r ≤ 80 := by omega
      have npb : pa ≠ b := fun z => by rw [z, bz] at npa; cases npa
      have eg : G1 pa = some (.lst (xs9.map V.int)) := by rw [g1 pa npb]; exact e9
      refine ⟨2, r, rfl, rfl, shl_ok (n := 2) (by decide) (by omega), ?_⟩
      have p80 : ((2 : Int) ^ r) ≤ 2 ^ 80 := by
        have : 2 ^ r ≤ 2 ^ 80 := Nat.pow_le_pow_right (by decide) hr80
        exact_mod_cast this
      have pp : (1 : Int) ≤ 2 ^ r := by
        have : 1 ≤ 2 ^ r := Nat.one_le_two_pow
        exact_mod_cast this
      refine ⟨_, rfl, pa, _, 0, 0, rfl, rfl, eg, by rw [List.length_map]; exact MG.ixN_nat (j := 0) h0, ?_⟩
      refine ⟨pa, xs9.set 0 (2 * 2 ^ r), _, _, _, rfl, npa, by rw [upd_same, map_setL], by rw [List.length_set]; exact l9, fun x hx => ?_, (hG1.set (Ne.symm npb)).le (by omega), ?_⟩
      · rcases List.mem_or_eq_of_mem_set hx with h | h
        · exact hx9 x h
        · rw [h]
          have h8 : (2 : Nat) * 2 ^ r ≤ 10 ^ figures.toNat := by
            have h1 : (2 : Nat) * 2 ^ r = 2 ^ (r + 1) := by rw [Nat.pow_succ, Nat.mul_comm]
            have h2 : (2 : Nat) ^ (r + 1) ≤ 2 ^ (3 * figures.toNat) := Nat.pow_le_pow_right (by decide) (by omega)
            have h3 : (2 : Nat) ^ (3 * figures.toNat) = 8 ^ figures.toNat := by rw [Nat.pow_mul]
            have h4 : (8 : Nat) ^ figures.toNat ≤ 10 ^ figures.toNat := Nat.pow_le_pow_left (by decide) _
            omega
          have h9 : (2 : Int) * 2 ^ r ≤ B := by
            rw [← eB]
            exact_mod_cast h8
          omega
      · intro c o nc hc
        rw [upd_ne (ne_of_none hc npa)]
        exact (x9.trans (.of_eq g1)) c o nc hc
    clear h0 hB9 x9 e9 l9 hx9 npa
    rintro σ H10 ⟨pa, xsA, y8, y9, y10, rfl, npa, eA, lA, hxA, hBA, xA⟩
    have h0 : 0 < xsA.length := by omega
    refine ⟨_, rfl, .ref pa, rfl, pa, rfl, ⟨_, SqL.of eA⟩, fun D nD => ?_⟩
    refine lc_list (K := K) (a := pa) (xs := xsA.map V.int) (fun i H' => Same H10 H' ∧ H' D = some (.lst (((xsA.take i).map fun x => share * x).map V.int))) ⟨same_upd nD, upd_same⟩ ?_ ?_ ?_
    · rintro i H' _ ⟨sm, _⟩
      exact SqL.of (sm _ _ eA)
    · rintro i x H' hx' ⟨sm, hD⟩
      rw [List.getElem?_map] at hx'
      obtain ⟨v, hv, rfl⟩ := Option.map_eq_some_iff.mp hx'
      have vb := hxA v (List.mem_of_getElem? hv)
      refine ⟨rfl, _, rfl, _, rfl, share, v, rfl, rfl, wide_mul (a := 5) (b := 100) (by omega) (by omega) (by decide) (by decide) (by decide), _, hD, ?_, ?_, ?_⟩
      · rw [List.length_map, List.length_map, List.length_take]
        exact small1000 (by omega)
      · intro c o hc
        rw [upd_ne (ne_of_none hc nD)]
        exact sm c o hc
      · rw [upd_same, List.take_add_one, hv, List.map_append, List.map_append]
        rfl
    rintro H' ⟨sm, hD⟩
    rw [List.length_map, List.take_length] at hD
    have nD0 := xA.free hBA nD
    obtain ⟨hB11, x11⟩ := stay xA hBA sm
    refine ⟨_, rfl, by show 3 ≤ sizeLine; decide, fun l2 n2 => ?_⟩
    obtain ⟨o8, z8⟩ := hB11.get
    refine ⟨b, l2, n + 61, _, rfl, hB11.new n2, by omega, upd_same, ne_of_none z8 n2, by show 1 ≤ 3; decide, by show 3 ≤ 1000; decide, fun nt H12 hnt hB12 k12 => ?_⟩
    obtain ⟨nt, rfl, nt0, nt1⟩ : ∃ v : Int, nt = .int v ∧ 0 ≤ v ∧ v ≤ 1 := by
      simp only [List.mem_cons, List.not_mem_nil, or_false] at hnt
      rcases hnt with h | h | h <;> exact ⟨_, h, by decide, by decide⟩
    have x12 : SX b H H12 := (x11.new n2).trans (.of_eq k12)
    have nDb : D ≠ b := fun z => by rw [z, bz] at nD0; cases nD0
    have eD : H12 D = some (.lst ((xsA.map fun x => share * x).map V.int)) := by rw [k12 D nDb]; exact same_upd n2 _ _ hD
    refine ⟨b, D, xsA.map fun x => share * x, nt, n + 62, rfl, hB12, by omega, .inl eD, nt0, by omega, by rw [List.length_map]; omega, fun p H13 ms np pm hB13 x13 ep => ?_⟩
    have hlm := pm.length_eq
    rw [List.length_append, List.length_map, List.length_replicate] at hlm
    have hin : ∀ x ∈ xsA, 1 ≤ share * x ∧ share * x ≤ 12 * (B + 1) := fun x hx => by
      have h7 := hxA x hx
      have u1 : 1 * 1 ≤ share * x := Int.mul_le_mul sc1 h7.1 (by decide) (by omega)
      have u2 : share * x ≤ 12 * x := Int.mul_le_mul_of_nonneg_right sc2 (by omega)
      omega
    have hcnt : least ≤ MG.cnt ms ∧ (MG.cnt ms : Int) ≤ greatest := by
      have h1 := cnt_more pm
      have h2 : MG.cnt (xsA.map fun x => share * x) = xsA.length := by
        unfold MG.cnt
        rw [List.filter_eq_self.mpr fun x hx => decide_eq_true (by
          obtain ⟨z, hz, rfl⟩ := List.mem_map.mp hx
          have := hin z hz
          omega), List.length_map]
      omega
    refine q p H13 ms (x12.free hB12 np) (by omega) (fun x hx => ?_) ?_ (by omega) hcnt (hB13.le (by omega)) (x12.trans x13) ep
    · rcases List.mem_append.mp (pm.mem_iff.mp hx) with h | h
      · obtain ⟨z, hz, rfl⟩ := List.mem_map.mp h
        have := hin z hz
        omega
      · rw [List.eq_of_mem_replicate h]; omega
    · refine ⟨share * xsA[0], pm.mem_iff.mpr (List.mem_append_left _ (List.mem_map.mpr ⟨_, List.getElem_mem h0, rfl⟩)), ?_⟩
      have := hin _ (List.getElem_mem h0)
      omega
end
end K70

namespace K70
open PySem PySem.Spec PyProof.Rows L2 MG
abbrev sMoved : Stmt := topS 34
abbrev nMoved : List Str := ["_law_box_here", "_law_row", "_law_here", "_law_some", "_law_i", "_law_j", "_law_way", "_law_part"]
theorem scMoved : FnScope ["_law_box_here", "_law_row", "_law_here", "_law_some", "_law_i", "_law_j", "_law_way", "_law_part"] ["_law_box_here", "_law_row"] (defScope sMoved) := ⟨rfl, rfl, rfl, by decide +kernel, rfl, by decide +kernel, by decide +kernel⟩
theorem box_tup {G : Hp} {z b : Addr} {xs : List V} {m : Nat} (hB : Box G b m) (hz : G z = some (.tup xs)) : z ≠ b := fun w => by
  obtain ⟨_, _, _, e, _⟩ := hB
  rw [w, e] at hz
  cases hz
theorem getDs {l : List Int} {p : Nat} (h : p < l.length) : l[p]? = some (l.getD p 0) := by
  rw [List.getD_eq_getElem?_getD, List.getElem?_eq_getElem h]; rfl
theorem getDe {l : List Int} {p : Nat} (h : p < l.length) : l.getD p 0 = l[p] := by
  rw [List.getD_eq_getElem?_getD, List.getElem?_eq_getElem h]; rfl
/-- a part is given on -/
def mv (h : List Int) (i j : Nat) (x : Int) : List Int := (h.set i (h.getD i 0 - x)).set j ((h.set i (h.getD i 0 - x)).getD j 0 + x)
theorem mv_len (h : List Int) (i j : Nat) (x : Int) : (mv h i j x).length = h.length := by unfold mv; rw [List.length_set, List.length_set]
theorem mv_sum {h : List Int} {i j : Nat} (hi : i < h.length) (hj : j < h.length) (x : Int) : (mv h i j x).sum = h.sum := by
  unfold mv
  have hj' : j < (h.set i (h.getD i 0 - x)).length := by rw [List.length_set]; exact hj
  rw [sum_setG _ j hj' _, ← getDe hj', sum_setG _ i hi _, ← getDe hi]
  omega
theorem mv_nn {h : List Int} {i j : Nat} {x : Int} (hi : i < h.length) (hj : j < h.length) (nn : ∀ n ∈ h, 0 ≤ n) (x0 : 0 ≤ x) (x1 : x ≤ h.getD i 0) : ∀ n ∈ mv h i j x, 0 ≤ n := fun n hn => by
  unfold mv at hn
  rcases List.mem_or_eq_of_mem_set hn with h1 | h1
  · rcases List.mem_or_eq_of_mem_set h1 with h2 | h2
    · exact nn n h2
    · omega
  · have hj' : j < (h.set i (h.getD i 0 - x)).length := by rw [List.length_set]; exact hj
    have : 0 ≤ (h.set i (h.getD i 0 - x)).getD j 0 := by
      rw [getD_set hi]
      split
      · omega
      · exact nn _ (List.mem_of_getElem? (getDs hj))
    omega
section
variable {P : Program} {w : World} {K : PySem.W.Frag} {mg : Str → Option Value} {base : Heap}
/-- another row of the sum -/
def spMoved : Sp := fun vs H Q _ => ∃ (b a : Addr) (r : List Int) (N : Nat), vs = [.ref b, .ref a] ∧ Box H b N ∧ N ≤ 700000 ∧ Row H a r ∧ r.length ≤ 12 ∧ 3 ≤ MG.cnt r ∧ r.sum < 2 ^ 110 ∧
  ∀ (p : Addr) (H' : Hp) (o : List Int), SX b H H' → Box H' b (N + 60) → H' p = some (.tup (o.map V.int)) → (∀ n ∈ o, 0 ≤ n) → o.length = r.length → o.sum = r.sum → Q (.ref p) H'
theorem ok_moved {f fT fO fHd fP : Addr} {fd fdT fdO fdHd fdP : FuncData} {k : Nat} (F : Fun K "_law_moved" "_law_moved" sMoved f fd)
    (FT : Fun K "_law_take" "_law_take" sTake fT fdT) (bT : Binds K fdT ["_law_box_here", "_law_many"] []) (gT : mg "_law_take" = some (.ref fT))
    (FO : Fun K "_law_of" "_law_of" sOf fO fdO) (bO : Binds K fdO ["_law_box_here", "_law_some"] []) (gO : mg "_law_of" = some (.ref fO))
    (FHd : Fun K "_law_had" "_law_had" sHad fHd fdHd) (bHd : Binds K fdHd ["_law_row"] []) (gHd : mg "_law_had" = some (.ref fHd)) (GHd : FnOk P w K mg base CX0 (k + 1) fHd fdHd ["_law_row"] spHad)
    (FP : Fun K "_law_places" "_law_places" sPlaces fP fdP) (bP : Binds K fdP ["_law_box_here", "_law_amounts", "_law_nothing"] []) (gP : mg "_law_places" = some (.ref fP)) (GP : FnOk P w K mg base CX0 (k + 2) fP fdP ["_law_box_here", "_law_amounts", "_law_nothing"] spPlaces)
    (m_len : mg "len" = none) (m_list : mg "list" = none) (m_range : mg "range" = none) (m_tuple : mg "tuple" = none) : FnOk P w K mg base CX0 (k + 3) f fd ["_law_box_here", "_law_row"] spMoved := by
  have GT : FnOk P w K mg base CX0 (k + 1) fT fdT ["_law_box_here", "_law_many"] spTake := ok_take FT
  have GO : FnOk P w K mg base CX0 (k + 2) fO fdO ["_law_box_here", "_law_some"] spOf := ok_of FO FT bT gT m_len
  refine F.ok scMoved (fun vs H Q E h => ?_) (fun cdv A outer s H vs Q E hr h => ?_)
  · obtain ⟨b, a, r, N, rfl, _⟩ := h
    rfl
  · obtain ⟨b, a, r, N, rfl, hB, hN, ra, l12, c3, sm, want⟩ := h
    have hr2 := hr
    have hr1 := hr.mono (show k + 1 ≤ k + 2 by omega)
    refine ⟨_, pss_cons (ps_par (i := 2) (j := 3) rfl scMoved.nd rfl rfl (by decide) rfl rfl (pa_cons (pe_callTy call_list_of (by rfl) m_list (by decide +kernel) (pa_cons (pv 1) pa_nil)) (pa_cons (pe_callTy call_list_of (by rfl) m_list (by decide +kernel) (pa_cons (pe_call GHd hr1 (by rfl) gHd FHd.kp bHd .nil pass0 (pa_cons (pv 1) pa_nil)) pa_nil)) pa_nil)) (by rfl))
      (pss_cons (ps_par3 (i := 4) (j := 5) (l := 6) rfl scMoved.nd rfl rfl rfl (by decide) (by decide) (by decide) rfl rfl rfl (pa_cons (pe_call GO hr2 (by rfl) gO FO.kp bO .nil pass0 (pa_cons (pv 0) (pa_cons (pv 3) pa_nil))) (pa_cons (pe_call GO hr2 (by rfl) gO FO.kp bO .nil pass0 (pa_cons (pv 0) (pa_cons (pe_listRg rfl (by rfl) m_list (prg_1 (by rfl) m_range (pe_callB call_len_seq (by rfl) m_len PySem.boot_len (pa_cons (pv 1) pa_nil)))) pa_nil))) (pa_cons (pe_call GT hr1 (by rfl) gT FT.kp bT .nil pass0 (pa_cons (pv 0) (pa_cons pe_int pa_nil))) pa_nil))) (by rfl))
      (pss_cons (ps_if (pt_cmpR op_eq (pv 6) pe_int (nomark _)) (pss_one (ps_ret (pe_call GP hr2 (by rfl) gP FP.kp bP .nil pass0 (pa_cons (pv 0) (pa_cons (pv 1) (pa_cons pe_int pa_nil)))))) pss_nil)
      (pss_cons (ps_set (i := 7) scMoved.nd rfl (.inl rfl) (pe_ix ix_list (pe_lst (pa_cons (pe_ix ix_list (pv 2) (pv 4) (fun _ _ => rfl)) (pa_cons (pe_op op_mul pe_int (pe_op op_fdiv (pe_ix ix_list (pv 2) (pv 4) (fun _ _ => rfl)) pe_int)) (pa_cons (pe_op op_fdiv (pe_ix ix_list (pv 2) (pv 4) (fun _ _ => rfl)) pe_int) pa_nil)))) (pe_op op_sub (pv 6) pe_int) (fun _ _ => rfl)))
      (pss_cons (ps_asg (pe_op op_sub (pe_ix ix_list (pv 2) (pv 4) (fun _ _ => rfl)) (pv 7)) (pg_sub (pv 2) (pv 4) set_list))
      (pss_cons (ps_asg (pe_op op_add (pe_ix ix_list (pv 2) (pv 5) (fun _ _ => rfl)) (pv 7)) (pg_sub (pv 2) (pv 5) set_list))
      (pss_one (ps_ret (pe_callTy call_tuple_of (by rfl) m_tuple (by decide +kernel) (pa_cons (pv 2) pa_nil))))))))), ?_⟩
    have nr : ∀ n ∈ r, 0 ≤ n := fun n hn => (ra.2.1 n hn).1
    have nab := box_tup hB ra.1
    obtain ⟨bo, bz⟩ := hB.get
    refine ⟨_, rfl, a, _, rfl, .inr (SqT.of ra.1), fun L nL => ?_⟩
    have s1 : Same H (upd H L (.lst (r.map V.int))) := same_upd nL
    have e1 : upd H L (.lst (r.map V.int)) L = some (.lst (r.map V.int)) := upd_same
    have Lb : L ≠ b := fun z => by rw [z, bz] at nL; cases nL
    generalize upd H L (HO.lst (r.map V.int)) = H1 at s1 e1 ⊢
    refine ⟨_, rfl, a, r, rfl, s1 _ _ ra.1, by omega, fun H2 ph s2 eh => ⟨ph, _, rfl, .inr (SqT.of eh), fun M nM => ⟨_, _, rfl, ?_⟩⟩⟩
    have s3 : Same H2 (upd H2 M (.lst ((hold r r.length).map V.int))) := same_upd nM
    have e3 : upd H2 M (.lst ((hold r r.length).map V.int)) M = some (.lst ((hold r r.length).map V.int)) := upd_same
    generalize upd H2 M (HO.lst ((hold r r.length).map V.int)) = H3 at s3 e3 ⊢
    have s13 := s1.trans (s2.trans s3)
    have eL3 := s3 _ _ (s2 _ _ e1)
    have hB3 : Box H3 b N := hB.at (by rw [bz]; exact s13 _ _ bz)
    have Mb : M ≠ b := fun z => by rw [z] at nM; have := s2 _ _ (s1 _ _ bz); rw [this] at nM; cases nM
    have hl := hold_len r r.length
    have h3 : 3 ≤ (hold r r.length).length := by rw [← cnt_hold]; exact c3
    refine ⟨_, rfl, _, rfl, b, M, N, _, rfl, hB3, by omega, e3, Mb.symm, by rw [List.length_map]; omega, by rw [List.length_map]; omega, fun x H4 hx hB4 k4 => ?_⟩
    obtain ⟨x, hx2, rfl⟩ := List.mem_map.mp hx
    obtain ⟨i, rfl, il, ip⟩ := hold_get hx2
    have ra3 : Row H4 a r := ⟨by rw [k4 _ nab]; exact s13 _ _ ra.1, ra.2⟩
    refine ⟨_, rfl, _, rfl, a, _, rfl, .inr (SqT.of ra3.1), (r.length : Int), by rw [List.length_map], RgOk.of_le (by omega) (by omega) (by omega) (by omega), fun l nl => ?_⟩
    have s5 : Same H4 (upd H4 l (.lst (rgV 0 (r.length : Int)))) := same_upd nl
    have e5 : upd H4 l (.lst (rgV 0 (r.length : Int))) l = some (.lst (rgV 0 (r.length : Int))) := upd_same
    have hB5 : Box (upd H4 l (.lst (rgV 0 (r.length : Int)))) b (N + 1) := hB4.new nl
    have lb : l ≠ b := fun z => by rw [z] at nl; obtain ⟨_, y⟩ := hB4.get; rw [y] at nl; cases nl
    generalize upd H4 l (HO.lst (rgV 0 (r.length : Int))) = H5 at s5 e5 hB5 ⊢
    have rl : (rgV 0 (r.length : Int)).length = r.length := by rw [rgV_length]; omega
    refine ⟨b, l, _, _, rfl, hB5, by omega, e5, lb.symm, by rw [rl]; omega, by rw [rl]; omega, fun y H6 hy hB6 k6 => ?_⟩
    obtain ⟨j, rfl, jl⟩ : ∃ j : Nat, y = .int (j : Nat) ∧ j < r.length := by
      unfold rgV at hy
      obtain ⟨j, hj, rfl⟩ := List.mem_map.mp hy
      have := List.mem_range.mp hj
      exact ⟨j, by rw [Int.zero_add], by omega⟩
    refine ⟨_, rfl, b, 4, _, rfl, hB6, by omega, by decide, by decide, fun way H7 w0 w1 hB7 k7 => ⟨_, _, _, rfl, ?_⟩⟩
    have sx7 : SX b H H7 := (SX.of_same s13).trans ((SX.of_eq k4).trans ((SX.of_same s5).trans ((SX.of_eq k6).trans (.of_eq k7))))
    have e7 : H7 L = some (.lst (r.map V.int)) := by
      rw [k7 _ Lb, k6 _ Lb]
      exact s5 _ _ (by rw [k4 _ Lb]; exact eL3)
    refine ⟨_, rfl, rfl, _, rfl, ?_⟩
    by_cases hw : way = 0
    · rw [show decide (V.int way = V.int 0) = true from decide_eq_true (by rw [hw])]
      refine iteT ?_
      refine ⟨_, rfl, _, rfl, b, a, r, 0, _, rfl, hB7, by omega, .inr (sx7 _ _ nab ra.1), by decide, by decide, by omega, fun p G ms np perm hB8 sx8 ep => ?_⟩
      rw [show ((0 : Int).toNat) = 0 from rfl, List.replicate_zero, List.append_nil] at perm
      exact want p G ms (sx7.trans sx8) (hB8.le (by omega)) ep (fun n hn => nr n (perm.subset hn)) perm.length_eq (perm_sumV perm)
    rw [show decide (V.int way = V.int 0) = false from decide_eq_false (fun z => hw (V.int.inj z))]
    refine iteF ?_
    have pi := ip
    have psm := mem_le_sumG nr _ (List.mem_of_getElem? (getDs il))
    have li : i < (r.map V.int).length := by rw [List.length_map]; exact il
    have lj : j < (r.map V.int).length := by rw [List.length_map]; exact jl
    have ai := atI_nat (MG.getD_at il)
    have cd : ∀ n : Int, (fun (_ j : Int) => 0 < j) n 2 := fun n => show (0 : Int) < 2 by decide
    refine ⟨_, rfl, _, rfl, L, _, (i : Int), .int (r.getD i 0), rfl, rfl, SqL.of e7, ai, _, rfl, _, rfl, L, _, (i : Int), .int (r.getD i 0), rfl, rfl, SqL.of e7, ai, _, 2, rfl, rfl, ⟨by decide, by decide⟩, _, _, rfl, rfl, .inl ⟨by decide, by decide⟩,
      _, rfl, _, rfl, L, _, (i : Int), .int (r.getD i 0), rfl, rfl, SqL.of e7, ai, _, 2, rfl, rfl, ⟨by decide, by decide⟩, by show 3 ≤ sizeLine; decide, fun q nq => ?_⟩
    have s8 : Same H7 (upd H7 q (.lst [.int (r.getD i 0), .int (2 * (r.getD i 0 / 2)), .int (r.getD i 0 / 2)])) := same_upd nq
    have e8 : upd H7 q (.lst [.int (r.getD i 0), .int (2 * (r.getD i 0 / 2)), .int (r.getD i 0 / 2)]) q = some (.lst [.int (r.getD i 0), .int (2 * (r.getD i 0 / 2)), .int (r.getD i 0 / 2)]) := upd_same
    have hB8 : Box (upd H7 q (.lst [.int (r.getD i 0), .int (2 * (r.getD i 0 / 2)), .int (r.getD i 0 / 2)])) b (N + 1 + 1 + 1) := hB7.new nq
    show tOp _ _ _ _ _ _
    generalize upd H7 q (HO.lst [.int (r.getD i 0), .int (2 * (r.getD i 0 / 2)), .int (r.getD i 0 / 2)]) = H8 at s8 e8 hB8 ⊢
    obtain ⟨m, rfl⟩ : ∃ m : Nat, way = ((m + 1 : Nat) : Int) := ⟨way.toNat - 1, by omega⟩
    obtain ⟨x, hx, x0, x1⟩ : ∃ x : Int, atI [V.int (r.getD i 0), .int (2 * (r.getD i 0 / 2)), .int (r.getD i 0 / 2)] (m : Int) = some (V.int x) ∧ 0 ≤ x ∧ x ≤ r.getD i 0 := by
      match m, w1 with
      | 0, _ => exact ⟨_, atI_nat (j := 0) rfl, by omega, by omega⟩
      | 1, _ => exact ⟨_, atI_nat (j := 1) rfl, by omega, by omega⟩
      | 2, _ => exact ⟨_, atI_nat (j := 2) rfl, by omega, by omega⟩
      | n + 3, h => exact absurd h (by omega)
    refine ⟨_, rfl, _, _, rfl, rfl, q, _, (m : Int), .int x, rfl, congrArg V.int (show ((m + 1 : Nat) : Int) - 1 = (m : Int) by omega), SqL.of e8, hx, ?_⟩
    have e8L := s8 _ _ e7
    -- given
    refine ⟨_, rfl, _, rfl, L, _, (i : Int), .int (r.getD i 0), rfl, rfl, SqL.of e8L, ai, _, rfl, _, _, rfl, rfl, _, rfl, _, rfl, L, _, (i : Int), i, rfl, rfl, e8L, ixN_nat li, ?_⟩
    have e9 : upd H8 L (.lst ((r.map V.int).set i (.int (r.getD i 0 - x)))) L = some (.lst ((r.set i (r.getD i 0 - x)).map V.int)) := by rw [upd_same, List.map_set]
    have k9 : ∀ z, z ≠ L → upd H8 L (.lst ((r.map V.int).set i (.int (r.getD i 0 - x)))) z = H8 z := fun z hz => upd_ne hz
    generalize upd H8 L (HO.lst ((r.map V.int).set i (.int (r.getD i 0 - x)))) = H9 at e9 k9 ⊢
    have jl' : j < (r.set i (r.getD i 0 - x)).length := by rw [List.length_set]; exact jl
    -- taken
    refine ⟨_, rfl, _, rfl, L, _, (j : Int), .int ((r.set i (r.getD i 0 - x)).getD j 0), rfl, rfl, SqL.of e9, atI_nat (MG.getD_at jl'), _, rfl, _, _, rfl, rfl, _, rfl, _, rfl, L, _, (j : Int), j, rfl, rfl, e9, ixN_nat (by rw [List.length_map]; exact jl'), ?_⟩
    have e10 : upd H9 L (.lst (((r.set i (r.getD i 0 - x)).map V.int).set j (.int ((r.set i (r.getD i 0 - x)).getD j 0 + x)))) L = some (.lst ((mv r i j x).map V.int)) := by unfold mv; simp only [upd_same, List.map_set]
    have k10 : ∀ z, z ≠ L → upd H9 L (.lst (((r.set i (r.getD i 0 - x)).map V.int).set j (.int ((r.set i (r.getD i 0 - x)).getD j 0 + x)))) z = H9 z := fun z hz => upd_ne hz
    generalize upd H9 L (HO.lst (((r.set i (r.getD i 0 - x)).map V.int).set j (.int ((r.set i (r.getD i 0 - x)).getD j 0 + x)))) = H10 at e10 k10 ⊢
    refine ⟨_, rfl, L, _, rfl, .inl ⟨SqL.of e10, fun p np => ?_⟩⟩
    have sx10 : SX b H H10 := fun z o zb hz => by
      have zL := ne_of_none hz nL
      rw [k10 _ zL, k9 _ zL]
      exact s8 _ _ (sx7 z o zb hz)
    have hB10 : Box H10 b (N + 3) := hB8.at (by rw [k10 _ Lb.symm, k9 _ Lb.symm])
    exact want p _ _ (sx10.new np) ((hB10.new np).le (by omega)) upd_same (mv_nn il jl nr x0 x1) (mv_len _ _ _ _) (mv_sum il jl x)
end
end K70

namespace K70
open PySem PySem.Spec PyProof.Rows L2 MG
abbrev sFurther : Stmt := topS 35
abbrev nFurther : List Str := ["_law_box_here", "_law_row", "_law_here", "_law_turn", "_law_some", "_law_i", "_law_many", "_law_there"]
theorem scFurther : FnScope ["_law_box_here", "_law_row", "_law_here", "_law_turn", "_law_some", "_law_i", "_law_many", "_law_there"] ["_law_box_here", "_law_row"] (defScope sFurther) := ⟨rfl, rfl, rfl, by decide +kernel, rfl, by decide +kernel, by decide +kernel⟩
theorem nil_nil : PyData.eqv (.list []) (.list []) = true := by rw [PyData.eqv, PyData.eqvAll]
theorem cons_nil (x : PyData) (l : List PyData) : PyData.eqv (.list (x :: l)) (.list []) = false := by rw [PyData.eqv, PyData.eqvAll]
theorem hold_nodup (ns : List Int) (i : Nat) : (hold ns i).Nodup := by
  unfold hold
  exact List.nodup_iff_pairwise_ne.mpr (List.pairwise_map.mpr ((List.nodup_iff_pairwise_ne.mp (List.nodup_range.filter _)).imp fun h e => h (Int.ofNat.inj e)))
theorem erase_map : ∀ (j : Nat) (l : List Int), (l.map V.int).eraseIdx j = (l.eraseIdx j).map V.int
  | _, [] => rfl
  | 0, x :: l => rfl
  | j + 1, x :: l => by
    show V.int x :: (l.map V.int).eraseIdx j = V.int x :: (l.eraseIdx j).map V.int
    rw [erase_map j l]
theorem seqIx {j n : Nat} (h : j < n) : seqIndex? (j : Int) n = some j := by
  unfold seqIndex?
  rw [if_neg (show ¬ (j : Int) < 0 by omega)]
  show (if (decide (0 ≤ (j : Int)) && decide ((j : Int) < (n : Nat))) = true then some (j : Int).toNat else none) = some j
  rw [decide_eq_true (show 0 ≤ (j : Int) by omega), decide_eq_true (show (j : Int) < (n : Nat) by omega)]
  rfl
section
variable {P : Program} {w : World} {K : PySem.W.Frag} {mg : Str → Option Value} {base : Heap}
/-- a row that comes, three holders left -/
def spFurther : Sp := fun vs H Q _ => ∃ (b a : Addr) (r : List Int) (N : Nat), vs = [.ref b, .ref a] ∧ Box H b N ∧ N ≤ 700000 ∧ H a = some (.tup (r.map V.int)) ∧ (∀ n ∈ r, 0 ≤ n) ∧ r.length ≤ 12 ∧ 3 ≤ MG.cnt r ∧ r.sum < 2 ^ 110 ∧
  ∀ (p : Addr) (H' : Hp) (m : List Int), SX b H H' → Box H' b (N + 40) → H' p = some (.tup (m.map V.int)) → Re r m → 3 ≤ MG.cnt m → Q (.ref p) H'
theorem ok_further {f fT fO fHd fLe : Addr} {fd fdT fdO fdHd fdLe : FuncData} {k : Nat} (F : Fun K "_law_further" "_law_further" sFurther f fd)
    (FT : Fun K "_law_take" "_law_take" sTake fT fdT) (bT : Binds K fdT ["_law_box_here", "_law_many"] []) (gT : mg "_law_take" = some (.ref fT))
    (FO : Fun K "_law_of" "_law_of" sOf fO fdO) (bO : Binds K fdO ["_law_box_here", "_law_some"] []) (gO : mg "_law_of" = some (.ref fO))
    (FHd : Fun K "_law_had" "_law_had" sHad fHd fdHd) (bHd : Binds K fdHd ["_law_row"] []) (gHd : mg "_law_had" = some (.ref fHd)) (GHd : FnOk P w K mg base CX0 (k + 1) fHd fdHd ["_law_row"] spHad)
    (FLe : Fun K "_law_leapt" "_law_leapt" sLeapt fLe fdLe) (bLe : Binds K fdLe ["_law_row", "_law_step"] []) (gLe : mg "_law_leapt" = some (.ref fLe)) (GLe : FnOk P w K mg base CX0 (k + 2) fLe fdLe ["_law_row", "_law_step"] spLeapt)
    (m_len : mg "len" = none) (m_list : mg "list" = none) (m_range : mg "range" = none) : FnOk P w K mg base CX0 (k + 3) f fd ["_law_box_here", "_law_row"] spFurther := by
  have GT : FnOk P w K mg base CX0 (k + 1) fT fdT ["_law_box_here", "_law_many"] spTake := ok_take FT
  have GO : FnOk P w K mg base CX0 (k + 2) fO fdO ["_law_box_here", "_law_some"] spOf := ok_of FO FT bT gT m_len
  refine F.ok scFurther (fun vs H Q E h => ?_) (fun cdv A outer s H vs Q E hr h => ?_)
  · obtain ⟨b, a, r, N, rfl, _⟩ := h
    rfl
  · obtain ⟨b, a, r, N, rfl, hB, hN, ea, nr, l12, c3, sm, want⟩ := h
    have hr2 := hr
    have hr1 := hr.mono (show k + 1 ≤ k + 2 by omega)
    refine ⟨_, pss_cons (ps_set (i := 2) scFurther.nd rfl (.inl rfl) (pv 1))
      (pss_cons (ps_for PassesOwn.never rfl (pi_range1 (by rfl) m_range (pa_cons (pe_op op_add pe_int (pe_call GT hr1 (by rfl) gT FT.kp bT .nil pass0 (pa_cons (pv 0) (pa_cons pe_int pa_nil)))) pa_nil)) (pg_name (i := 3) scFurther.nd rfl (.inl rfl)) (pss_cons (ps_set (i := 4) scFurther.nd rfl (.inl rfl) (pe_callTy call_list_of (by rfl) m_list (by decide +kernel) (pa_cons (pe_call GHd hr1 (by rfl) gHd FHd.kp bHd .nil pass0 (pa_cons (pv 2) pa_nil)) pa_nil)))
      (pss_cons (ps_set (i := 5) scFurther.nd rfl (.inl rfl) (pe_bm PySem.F.plainAttrs_list PySem.F.slot_list_pop PySem.F.type_list_pop mt_popAt (pv 4) (pa_cons (pe_call GT hr1 (by rfl) gT FT.kp bT .nil pass0 (pa_cons (pv 0) (pa_cons (pe_callB call_len_seq (by rfl) m_len PySem.boot_len (pa_cons (pv 4) pa_nil)) pa_nil))) pa_nil)))
      (pss_cons (ps_set (i := 6) scFurther.nd rfl (.inl rfl) (pe_call GO hr2 (by rfl) gO FO.kp bO .nil pass0 (pa_cons (pv 0) (pa_cons (pe_lst (pa_cons pe_int (pa_cons pe_int (pa_cons pe_int (pa_cons pe_int (pa_cons (pe_call GT hr1 (by rfl) gT FT.kp bT .nil pass0 (pa_cons (pv 0) (pa_cons (pe_op op_pow pe_int pe_int) pa_nil))) pa_nil)))))) pa_nil))))
      (pss_cons (ps_set (i := 7) scFurther.nd rfl (.inl rfl) (pe_call GLe hr2 (by rfl) gLe FLe.kp bLe .nil pass0 (pa_cons (pv 2) (pa_cons (pe_tup (pa_cons (pv 5) (pa_cons (pe_call GO hr2 (by rfl) gO FO.kp bO .nil pass0 (pa_cons (pv 0) (pa_cons (pv 4) pa_nil))) (pa_cons (pv 6) pa_nil)))) pa_nil))))
      (pss_one (ps_if (PW.pt (pw_and (pt_cmpR (op_neD hr.units) (pv 7) (pe_lst pa_nil) (nomark _)) (pw_and1 (pt_cmpR op_gt (pe_callB call_len_seq (by rfl) m_len PySem.boot_len (pa_cons (pe_call GHd hr1 (by rfl) gHd FHd.kp bHd .nil pass0 (pa_cons (pe_ix ix_list (pv 7) pe_int (fun _ _ => rfl)) pa_nil)) pa_nil)) pe_int (nomark _))))) (pss_one (ps_set (i := 2) scFurther.nd rfl (.inl rfl) (pe_ix ix_list (pv 7) pe_int (fun _ _ => rfl)))) pss_nil)))))))
      (pss_one (ps_ret (pv 2)))), ?_⟩
    have nab := box_tup hB ea
    refine ⟨_, rfl, _, rfl, b, 4, N, rfl, hB, by omega, by decide, by decide, fun v G0 v0 v1 B0 k0 => ⟨_, _, rfl, rfl, _, rfl, by omega, by omega, ?_⟩⟩
    have sx0 : SX b H G0 := .of_eq k0
    refine for_range (lo := 0) (n := (1 + v).toNat) (fun i σ G => ∃ (z : Addr) (m : List Int) (y3 y4 y5 y6 y7 : Option V), σ = [some (.ref b), some (.ref a), some (.ref z), y3, y4, y5, y6, y7] ∧ SX b H G ∧ Box G b (N + 1 + 6 * i) ∧ G z = some (.tup (m.map V.int)) ∧ Re r m ∧ 3 ≤ MG.cnt m) ⟨a, r, _, _, _, _, _, rfl, sx0, B0, sx0 _ _ nab ea, .refl, c3⟩ ?_ ?_
    rotate_left
    · rintro σ G ⟨z, m, y3, y4, y5, y6, y7, rfl, sx, hBG, ez, re, cm⟩
      exact ⟨_, rfl, want z G m sx (hBG.le (by omega)) ez re cm⟩
    rintro i σ G hi ⟨z, m, y3, y4, y5, y6, y7, rfl, sx, hBG, ez, re, cm⟩
    have hi4 : i < 4 := by omega
    obtain ⟨lm, smm, nm⟩ := re.keeps nr
    refine ⟨_, rfl, z, m, rfl, ez, by omega, fun G1 ph s1 eh => ⟨ph, _, rfl, .inr (SqT.of eh), fun L nL => ?_⟩⟩
    have s2 : Same G1 (upd G1 L (.lst ((hold m m.length).map V.int))) := same_upd nL
    have e2 : upd G1 L (.lst ((hold m m.length).map V.int)) L = some (.lst ((hold m m.length).map V.int)) := upd_same
    have nLG : G L = none := s1.free nL
    have Lb : L ≠ b := fun y => by rw [y] at nLG; obtain ⟨_, h⟩ := hBG.get; rw [h] at nLG; cases nLG
    have hB2 : Box (upd G1 L (.lst ((hold m m.length).map V.int))) b (N + 1 + 6 * i) := by
      obtain ⟨_, h⟩ := hBG.get
      exact hBG.at (by rw [h]; exact s2 _ _ (s1 _ _ h))
    have hl := hold_len m m.length
    have h3 : 3 ≤ (hold m m.length).length := by rw [← cnt_hold]; exact cm
    have hnd := hold_nodup m m.length
    have hmem : ∀ x ∈ hold m m.length, ∃ p : Nat, x = p ∧ p < m.length ∧ 0 < m.getD p 0 := fun x hx => hold_get hx
    have sx2 : SX b H (upd G1 L (.lst ((hold m m.length).map V.int))) := sx.trans (.of_same (s1.trans s2))
    have ez2 : upd G1 L (.lst ((hold m m.length).map V.int)) z = some (.tup (m.map V.int)) := s2 _ _ (s1 _ _ ez)
    generalize upd G1 L (HO.lst ((hold m m.length).map V.int)) = G2 at e2 hB2 sx2 ez2 ⊢
    generalize hold m m.length = hs at e2 hl h3 hnd hmem ⊢
    refine ⟨_, rfl, .inl ⟨rfl, _, SqL.of e2⟩, _, rfl, _, rfl, L, _, rfl, .inl (SqL.of e2), ?_⟩
    rw [List.length_map]
    refine ⟨b, (hs.length : Int), _, rfl, hB2, by omega, by omega, by omega, fun jj G3 j0 j1 B3 k3 => ?_⟩
    obtain ⟨j, rfl⟩ := Int.eq_ofNat_of_zero_le j0
    have hj : j < hs.length := by omega
    have e3 : G3 L = some (.lst (hs.map V.int)) := by rw [k3 _ Lb]; exact e2
    refine ⟨L, _, (j : Int), j, .int hs[j], rfl, rfl, e3, by omega, by omega, by rw [List.length_map]; exact seqIx hj, by rw [List.getElem?_map, List.getElem?_eq_getElem hj]; rfl, ?_⟩
    obtain ⟨p, hp, pl, pp⟩ := hmem hs[j] (List.getElem_mem hj)
    have er : (hs.map V.int).eraseIdx j = (hs.eraseIdx j).map V.int := erase_map j hs
    have rin : ∀ x ∈ hs.eraseIdx j, ∃ q : Nat, x = q ∧ q < m.length ∧ 0 < m.getD q 0 ∧ q ≠ p := fun x hx => by
      obtain ⟨c, hc, ne, e⟩ := List.mem_eraseIdx_iff_getElem.mp hx
      obtain ⟨q, hq, ql, qp⟩ := hmem x (by rw [← e]; exact List.getElem_mem hc)
      refine ⟨q, hq, ql, qp, fun y => ne ?_⟩
      exact (List.getElem_inj hnd).mp (by rw [e, hp, hq, y])
    have rl : (hs.eraseIdx j).length = hs.length - 1 := List.length_eraseIdx_of_lt hj
    rw [hp, er]
    have ez3 : G3 z = some (.tup (m.map V.int)) := by rw [k3 _ (box_tup hB2 ez2)]; exact ez2
    have zL : z ≠ L := fun y => by rw [y, e3] at ez3; cases ez3
    have e4 : upd G3 L (.lst ((hs.eraseIdx j).map V.int)) L = some (.lst ((hs.eraseIdx j).map V.int)) := upd_same
    have k4 : ∀ y, y ≠ L → upd G3 L (.lst ((hs.eraseIdx j).map V.int)) y = G3 y := fun y hy => upd_ne hy
    generalize upd G3 L (HO.lst ((hs.eraseIdx j).map V.int)) = G4 at e4 k4 ⊢
    generalize hs.eraseIdx j = rest at rin rl e4 ⊢
    have sx3 : SX b H G3 := sx2.trans (.of_eq k3)
    have nLH : H L = none := by
      cases y : H L with
      | none => rfl
      | some o => have := sx L o Lb y; rw [nLG] at this; cases this
    have sx4 : SX b H G4 := fun c o cb hc => by rw [k4 c (ne_of_none hc nLH)]; exact sx3 c o cb hc
    have hB4 : Box G4 b (N + 1 + 6 * i + 1) := B3.at (k4 _ Lb.symm)
    have ez4 : G4 z = some (.tup (m.map V.int)) := by rw [k4 _ zL]; exact ez3
    -- how many
    refine ⟨_, rfl, _, rfl, 10, 20, rfl, rfl, ⟨by decide, by decide, by decide⟩, b, _, _, rfl, hB4, by omega, by decide, by decide, fun u G5 u0 u1 B5 k5 => ⟨by show 5 ≤ sizeLine; decide, fun l nl => ?_⟩⟩
    have s6 : Same G5 (upd G5 l (.lst [.int 1, .int 1, .int 2, .int 5, .int u])) := same_upd nl
    have e6 : upd G5 l (.lst [.int 1, .int 1, .int 2, .int 5, .int u]) l = some (.lst [.int 1, .int 1, .int 2, .int 5, .int u]) := upd_same
    have hB6 : Box (upd G5 l (.lst [.int 1, .int 1, .int 2, .int 5, .int u])) b (N + 1 + 6 * i + 1 + 1) := B5.new nl
    have bl : b ≠ l := by obtain ⟨_, h⟩ := B5.get; exact ne_of_none h nl
    generalize upd G5 l (HO.lst [.int 1, .int 1, .int 2, .int 5, .int u]) = G6 at s6 e6 hB6 ⊢
    refine ⟨b, l, _, _, rfl, hB6, by omega, e6, bl, by show 1 ≤ 5; decide, by show 5 ≤ 1000; decide, fun x G7 hx B7 k7 => ?_⟩
    obtain ⟨many, rfl⟩ : ∃ many : Nat, x = .int (many : Nat) := by
      simp only [List.mem_cons, List.not_mem_nil, or_false] at hx
      rcases hx with rfl | rfl | rfl | rfl | rfl
      · exact ⟨1, rfl⟩
      · exact ⟨1, rfl⟩
      · exact ⟨2, rfl⟩
      · exact ⟨5, rfl⟩
      · exact ⟨u.toNat, by rw [Int.toNat_of_nonneg u0]⟩
    have sx7 : SX b G4 G7 := (SX.of_eq k5).trans ((SX.of_same s6).trans (.of_eq k7))
    have e7 := sx7 _ _ Lb e4
    have ez7 := sx7 _ _ (box_tup hB4 ez4) ez4
    -- the run
    refine ⟨_, rfl, _, rfl, _, rfl, _, rfl, b, L, _, _, rfl, B7, by omega, e7, Lb.symm, by rw [List.length_map]; omega, by rw [List.length_map]; omega, fun y G8 hy B8 k8 => ⟨_, rfl, by show 3 ≤ sizeLine; decide, fun t nt => ?_⟩⟩
    obtain ⟨y, hy2, rfl⟩ := List.mem_map.mp hy
    obtain ⟨q, rfl, ql, qp, qne⟩ := rin y hy2
    have ez8 : G8 z = some (.tup (m.map V.int)) := by rw [k8 _ (box_tup B7 ez7)]; exact ez7
    have s9 : Same G8 (upd G8 t (.tup [.int (p : Nat), .int (q : Nat), .int (many : Nat)])) := same_upd nt
    have e9 : upd G8 t (.tup [.int (p : Nat), .int (q : Nat), .int (many : Nat)]) t = some (.tup [.int (p : Nat), .int (q : Nat), .int (many : Nat)]) := upd_same
    have hB9 : Box (upd G8 t (.tup [.int (p : Nat), .int (q : Nat), .int (many : Nat)])) b (N + 1 + 6 * i + 1 + 1 + 1 + 1) := B8.new nt
    have sx9 : SX b H (upd G8 t (.tup [.int (p : Nat), .int (q : Nat), .int (many : Nat)])) := sx4.trans (sx7.trans ((SX.of_eq k8).trans (.of_same s9)))
    have ez9 := s9 _ _ ez8
    generalize upd G8 t (HO.tup [.int (p : Nat), .int (q : Nat), .int (many : Nat)]) = G9 at s9 e9 hB9 sx9 ez9 ⊢
    have T : Two m p q (m.getD p 0).toNat (m.getD q 0).toNat := ⟨pl, ql, fun e => qne e.symm, by omega, by omega, by omega, by omega⟩
    have keepB : ∀ {G : Hp}, Same G9 G → Box G b (N + 1 + 6 * (i + 1)) := fun {G} s => by
      obtain ⟨_, h⟩ := hB9.get
      exact (hB9.at (by rw [h]; exact s _ _ h)).le (by omega)
    refine ⟨z, t, m, (p, q, many), rfl, ez9, e9, ⟨_, _, T⟩, nm, by omega, by omega, fun l2 G10 s10 nl2 el2 => ?_, fun ok l2 v2 G10 s10 nl2 nv2 el2 ev2 => ?_⟩
    · refine ⟨_, rfl, by show 0 ≤ sizeLine; decide, fun e ne => ?_⟩
      have se := s10.trans (same_upd ne (o := .lst []))
      refine ⟨.list [], .list [], .lst (SqL.of (same_upd ne _ _ el2)) .nil, .lst (SqL.of upd_same) .nil, rfl, rfl, ?_⟩
      rw [nil_nil]
      exact ⟨_, rfl, iteF ⟨z, m, _, _, _, _, _, rfl, sx9.trans (.of_same se), keepB se, se _ _ ez9, re, cm⟩⟩
    · refine ⟨_, rfl, by show 0 ≤ sizeLine; decide, fun e ne => ?_⟩
      have sn := same_upd ne (o := HO.lst [])
      have se := s10.trans sn
      refine ⟨.list ([runT m (p, q, many)].map rowDt), .list [], .lst (SqL.of (sn _ _ el2)) (.cons (.tup (SqT.of (sn _ _ ev2)) (dpInts _)) .nil), .lst (SqL.of upd_same) .nil, shapedL_rows [_], rfl, ?_⟩
      rw [show PyData.eqv (.list ([runT m (p, q, many)].map rowDt)) (.list []) = false from cons_nil _ _]
      have re2 := runOk_re ok
      obtain ⟨l3, _, n3⟩ := re2.keeps nm
      refine ⟨_, rfl, iteT ?_⟩
      refine ⟨_, rfl, l2, _, 0, .ref v2, rfl, rfl, SqL.of (sn _ _ el2), atI_nat (j := 0) rfl, v2, runT m (p, q, many), rfl, sn _ _ ev2, by omega, fun G12 p12 s12 e12 => ⟨p12, _, rfl, .inr (SqT.of e12), _, _, rfl, rfl, _, rfl, ?_⟩⟩
      rw [List.length_map]
      have sf := se.trans s12
      by_cases c2 : (2 : Int) < ((hold (runT m (p, q, many)) (runT m (p, q, many)).length).length : Nat)
      · rw [decide_eq_true c2]
        refine iteT ⟨_, rfl, l2, _, 0, .ref v2, rfl, rfl, SqL.of (s12 _ _ (sn _ _ el2)), atI_nat (j := 0) rfl, v2, runT m (p, q, many), _, _, _, _, _, rfl, sx9.trans (.of_same sf), keepB sf, s12 _ _ (sn _ _ ev2), re.trans re2, by rw [cnt_hold]; omega⟩
      · rw [decide_eq_false c2]
        exact iteF ⟨z, m, _, _, _, _, _, rfl, sx9.trans (.of_same sf), keepB sf, sf _ _ ez9, re, cm⟩
end
end K70

/-! MVa: dicts whose keys are tuples, nested too, of numbers, truths, texts and nothings -/
namespace MG
open PySem PySem.Spec PyProof.Rows L2
mutual
/-- in this heap the value is that key -/
inductive NKey (H : Hp) : NestedKey → V → Prop
  | non : NKey H .none .non
  | bl (b : Bool) : NKey H (.num (if b = true then 1 else 0)) (.bl b)
  | int (i : Int) : NKey H (.num i) (.int i)
  | str (x : Str) : NKey H (.text x) (.str x)
  | tup {a : Addr} {vs : List V} {ks : List NestedKey} : H a = some (.tup vs) → NKeys H ks vs → NKey H (.tup ks) (.ref a)
inductive NKeys (H : Hp) : List NestedKey → List V → Prop
  | nil : NKeys H [] []
  | cons {k : NestedKey} {v : V} {ks : List NestedKey} {vs : List V} : NKey H k v → NKeys H ks vs → NKeys H (k :: ks) (v :: vs)
end
mutual
theorem NKey.is {P : Program} {w : World} {H : Hp} {h : Heap} (ok : HOk P w H h) : ∀ (k : NestedKey) (v : V) (u : Value), NKey H k v → RelV v u → NestedIs h k u
  | .none, _, u, x, r => by
    cases x
    rw [show u = Value.none from r]
    exact .none
  | .num i, _, u, x, r => by
    cases x with
    | bl b =>
      rw [show u = Value.bool b from r]
      exact .bool rfl
    | int _ =>
      obtain ⟨t, rfl⟩ := (show ∃ t, u = Value.int i t from r)
      exact .int i t
  | .text z, _, u, x, r => by
    cases x
    obtain ⟨t, rfl⟩ := (show ∃ t, u = Value.str z t from r)
    exact .text z t
  | .tup ks, _, u, x, r => by
    cases x with
    | @tup a vs _ e rs =>
      rw [show u = Value.ref a from r]
      obtain ⟨_, its, rel, o, ho, hc, n, hd⟩ := (show ObjOk P w H h a (.tup vs) from ok a _ e)
      exact .tup ho hc hd (by simpa using NKeys.is ok ks vs its rs rel)
theorem NKeys.is {P : Program} {w : World} {H : Hp} {h : Heap} (ok : HOk P w H h) : ∀ (ks : List NestedKey) (vs : List V) (us : List Value), NKeys H ks vs → Vals vs us → NestedAll h ks us
  | [], _, us, x, r => by cases x; cases r; exact .nil
  | k :: ks, _, us, x, r => by
    cases x with
    | cons a rs =>
      cases r with
      | cons r1 r2 => exact .cons (NKey.is ok k _ _ a r1) (NKeys.is ok ks _ _ rs r2)
end
abbrev PN : List (NestedKey × Addr × V) → List (NestedKey × Addr × Value) → Prop := Paired fun p q => p.1 = q.1 ∧ p.2.1 = q.2.1 ∧ RelV p.2.2 q.2.2
/-- a dict by its keys, where they stand, and its values -/
def DN (P : Program) (w : World) (a : Addr) (xs : List (NestedKey × Addr × V)) : HO := .ext fun h => xs.length ≤ sizeLine ∧ (a == sysModules) = false ∧ ∃ vs, PN xs vs ∧
  ∃ o es ep, h.get? a = some o ∧ o.ExactDict ∧ o.data = .dict es ep ∧ es.toList = vs.map (entryOfKey (nestedKind P w)) ∧ (vs.map (·.1)).Nodup
/-- the keys stand -/
def KN (H : Hp) (xs : List (NestedKey × Addr × V)) : Prop := ∀ x ∈ xs, NKey H x.1 (.ref x.2.1) ∧ x.1.depth ≤ 8
def valN (xs : List (NestedKey × Addr × V)) (k : NestedKey) : Option V := (xs.find? fun x => decide (x.1 = k)).map fun x => x.2.2
def putN (xs : List (NestedKey × Addr × V)) (k : NestedKey) (b : Addr) (v : V) : List (NestedKey × Addr × V) := if (valN xs k).isSome then xs.map fun x => if x.1 = k then (x.1, x.2.1, v) else x else xs ++ [(k, b, v)]
theorem PN.val {xs : List (NestedKey × Addr × V)} {vs : List (NestedKey × Addr × Value)} (r : PN xs vs) (k : NestedKey) : RelO (valN xs k) ((atKey vs k).map (·.2)) := by
  induction r with
  | nil => exact True.intro
  | @cons p q ps qs h t ih =>
    by_cases e : p.1 = k
    · have a : valN (p :: ps) k = some p.2.2 := by simp [valN, List.find?_cons, e]
      have b : atKey (q :: qs) k = some q.2 := by simp [atKey, List.find?_cons, h.1.symm.trans e]
      rw [a, b]
      exact h.2.2
    · have a : valN (p :: ps) k = valN ps k := by simp [valN, List.find?_cons, e]
      have e' : ¬ q.1 = k := fun z => e (h.1.trans z)
      have b : atKey (q :: qs) k = atKey qs k := by simp [atKey, List.find?_cons, e']
      rw [a, b]
      exact ih
theorem PN.put {xs : List (NestedKey × Addr × V)} {vs : List (NestedKey × Addr × Value)} (r : PN xs vs) (k : NestedKey) (b : Addr) {v : V} {u : Value} (ru : RelV v u) : PN (putN xs k b v) (storedH vs k b u) := by
  have e : (valN xs k).isSome = (atKey vs k).isSome := by rw [(r.val k).isSome_eq, Option.isSome_map]
  unfold putN storedH
  rw [e]
  by_cases q : (atKey vs k).isSome = true
  · rw [if_pos q, if_pos q]
    clear e q
    induction r with
    | nil => exact .nil
    | @cons p q ps qs h t ih =>
      refine .cons ?_ ih
      unfold putAt
      dsimp only
      by_cases z : p.1 = k
      · rw [if_pos z, if_pos (h.1.symm.trans z)]
        exact ⟨h.1, h.2.1, ru⟩
      · rw [if_neg z, if_neg (fun y => z (h.1.trans y))]
        exact h
  · rw [if_neg q, if_neg q]
    exact Paired.snoc r ⟨rfl, rfl, ru⟩
theorem putN_len (xs : List (NestedKey × Addr × V)) (k : NestedKey) (b : Addr) (v : V) : (putN xs k b v).length ≤ xs.length + 1 := by
  unfold putN
  split
  · rw [List.length_map]; omega
  · rw [List.length_append]; exact Nat.le_refl _
section
variable {P : Program} {w : World} {H : Hp} {h : Heap} {a : Addr} {xs : List (NestedKey × Addr × V)}
theorem dn_ok {vs : List (NestedKey × Addr × Value)} (z : xs.length ≤ sizeLine) (y : (a == sysModules) = false) (r : PN xs vs) (d : h.DictOfH (nestedKind P w) a vs) : ObjOk P w H h a (DN P w a xs) := by
  obtain ⟨o, es, ep, h1, h2, h3, h4, _, h5⟩ := d
  exact ⟨⟨z, y, vs, r, o, es, ep, h1, h2, h3, h4, h5⟩, ⟨o, h1⟩, fun g1 g2 ⟨z, y, vs, r, o, es, ep, q1, q⟩ s => ⟨z, y, vs, r, o, es, ep, s o q1, q⟩⟩
end
section
variable {X : Cx}
def tNewN (P : Program) (w : World) : TE := fun _ H Q => ∀ p, H p = none → Q (.ref p) (upd H p (DN P w p []))
theorem dn_empty {P : Program} {w : World} {H : Hp} (h : Heap) (hb : sysModules < h.objs.size) : ObjOk P w H (h.push { cls := .type "dict", data := .dict #[] }) h.objs.size (DN P w h.objs.size []) :=
  dn_ok (vs := []) (Nat.zero_le _) (beq_eq_false_iff_ne.mpr (Ne.symm (Nat.ne_of_lt hb))) .nil ⟨_, #[], 0, Heap.get?_push_size _ rfl, ⟨rfl, rfl, rfl⟩, rfl, rfl, (fun x hx => nomatch hx), List.nodup_nil⟩
theorem pe_newN {P : Program} {w : World} {pos : Pos} (hP : X.prog = P) (hw : X.w = w) : PE X (.Dict [] [] pos) (tNewN P w) := by
  subst hP hw
  exact ⟨fun pins s σ H Q I q =>
  wpAny_Dict_empty ⟨.ref s.heap.objs.size, _, I.laid (a := s.heap.objs.size) (o := DN X.prog X.w s.heap.objs.size []) (t' := s.toks) (fun _ _ z => Heap.get?_push_of_some _ z) (Nat.le_refl _) (dn_empty s.heap I.big), rfl, q _ (I.hok.fresh (Nat.le_refl _))⟩⟩
/-- a dict of two such keys, written -/
def tDisp2 (P : Program) (w : World) (tk tv tl tu : TE) : TE := fun σ H Q => ∀ p, H p = none → tk σ (upd H p (DN P w p [])) fun x H1 => tv σ H1 fun y H2 => tl σ H2 fun x2 H3 => tu σ H3 fun y2 H4 => H4 p = some (DN P w p []) ∧
  ∃ b k c l, x = .ref b ∧ x2 = .ref c ∧ NKey H4 k (.ref b) ∧ k.depth ≤ 8 ∧ NKey H4 l (.ref c) ∧ l.depth ≤ 8 ∧ Q (.ref p) (upd H4 p (DN P w p (putN (putN [] k b y) l c y2)))
/-- d.get(k, x) -/
def tNGet2 (P : Program) (w : World) (td ty tx : TE) : TE := fun σ H Q => td σ H fun x H1 => ∃ a xs1, x = .ref a ∧ H1 a = some (DN P w a xs1) ∧ KN H1 xs1 ∧ ty σ H1 fun y H2 => tx σ H2 fun z H3 =>
  ∃ xs k b, H3 a = some (DN P w a xs) ∧ KN H3 xs ∧ y = .ref b ∧ NKey H3 k (.ref b) ∧ k.depth ≤ 8 ∧ Q ((valN xs k).getD z) H3
end
end MG

/-! MVb: dicts keyed by nested tuples: d[k], d[k] = v, k in d, d.get, a walk over the keys -/
namespace MG
open PySem PySem.Spec PyProof.Rows L2
/-- the dict stands there, locked or not -/
def RdN (P : Program) (w : World) (H : Hp) (a : Addr) (xs : List (NestedKey × Addr × V)) : Prop := H a = some (DN P w a xs) ∨ ∃ o, H a = some (.frz o (DN P w a xs))
section
variable {P : Program} {w : World} {H : Hp} {h : Heap} {a : Addr} {xs : List (NestedKey × Addr × V)}
theorem rdn_ok (ok : HOk P w H h) (e : RdN P w H a xs) : ObjOk P w H h a (DN P w a xs) := by
  rcases e with e | ⟨o, e⟩
  · exact ok a _ e
  · exact (show ObjOk P w H h a (.frz o (DN P w a xs)) from ok a _ e).2
theorem kn_all {vs : List (NestedKey × Addr × Value)} (ok : HOk P w H h) (r : PN xs vs) (kn : KN H xs) : ∀ q ∈ vs, (nestedKind P w).is h q.1 q.2.1 := by
  unfold KN at kn
  induction r with
  | nil => intro q hq; exact nomatch hq
  | @cons p q ps qs hp t ih =>
    intro y hy
    rcases List.mem_cons.mp hy with rfl | hy
    · obtain ⟨k1, k2⟩ := kn p List.mem_cons_self
      rw [← hp.1, ← hp.2.1]
      exact ⟨NKey.is ok _ _ _ k1 rfl, k2⟩
    · exact ih (fun p' hp' => kn p' (List.mem_cons_of_mem _ hp')) y hy
theorem dn_rd (ok : HOk P w H h) (e : RdN P w H a xs) (kn : KN H xs) : xs.length ≤ sizeLine ∧ (a == sysModules) = false ∧ ∃ vs, PN xs vs ∧ h.DictOfH (nestedKind P w) a vs := by
  obtain ⟨⟨z, y, vs, r, o, es, ep, h1, h2, h3, h4, h5⟩, _⟩ := rdn_ok ok e
  exact ⟨z, y, vs, r, o, es, ep, h1, h2, h3, h4, kn_all ok r kn, h5⟩
end
section
variable {X : Cx}
theorem room_n (hu : X.A.units + 9 < cLine) : (nestedKind X.prog X.w).room X.A.in1 := by
  show X.A.units + 1 + 8 < cLine
  omega
/-- d[k] -/
def tNGet (P : Program) (w : World) (td ty : TE) : TE := fun σ H Q => td σ H fun x H1 => ty σ H1 fun y H2 => ∃ a xs k b v, x = .ref a ∧ y = .ref b ∧ RdN P w H2 a xs ∧ KN H2 xs ∧ NKey H2 k (.ref b) ∧ k.depth ≤ 8 ∧ valN xs k = some v ∧ Q v H2
theorem pe_nget {P : Program} {w : World} {o i : PySem.Expr} {pos : Pos} {td ty : TE} (hP : X.prog = P) (hw : X.w = w) (hu : X.A.units + 9 < cLine) (ho : PE X o td) (hi : PE X i ty) (hs : NoSl i) : PE X (.Subscript o i pos) (tNGet P w td ty) := by
  subst hP hw
  refine ⟨fun pins s σ H Q I q => ?_⟩
  refine subD_of PySem.F.slot_dict_getitem.lookup hs (thn (ho.run pins s σ H _ I q) fun u s1 ⟨x, H1, I1, rx, q1⟩ => thn (hi.run pins s1 σ H1 _ I1 q1) fun iv s2 ⟨y, H2, I2, ry, a, xs, k, b, v, ex, ey, rd, kn, nk, dk, vl, q2⟩ => ?_)
  subst ex ey
  obtain rfl : u = Value.ref a := rx
  cases (show iv = Value.ref b from ry)
  obtain ⟨_, hd, vs, rel, dd⟩ := dn_rd I2.hok rd kn
  obtain ⟨w', hw', rw'⟩ := RelO.some_of (v := v) (o := (atKey vs k).map (·.2)) (by rw [← vl]; exact rel.val k)
  obtain ⟨p, hp, hp2⟩ := Option.map_eq_some_iff.mp hw'
  refine ⟨dd.typeIs, wpAny_getItem_heap (room_n hu) ⟨NKey.is I2.hok _ _ _ nk rfl, dk⟩ dd hp ?_⟩
  rw [hp2]
  exact ⟨v, H2, I2.tok _, rw', q2⟩
/-- d[k] = v -/
def rSetN (P : Program) (w : World) : TSet := fun o i v H Q => ∃ a xs k b, o = .ref a ∧ i = .ref b ∧ H a = some (DN P w a xs) ∧ KN H xs ∧ NKey H k (.ref b) ∧ k.depth ≤ 8 ∧ xs.length < sizeLine ∧ Q (upd H a (DN P w a (putN xs k b v)))
theorem set_n {P : Program} {w : World} (hP : X.prog = P) (hw : X.w = w) (hu : X.A.units + 9 < cLine) : PSet X (rSetN P w) := by
  subst hP hw
  intro pins s σ H o i v ov iv u Q I ro ri rv q
  obtain ⟨a, xs, k, b, eo, ei, e, kn, nk, dk, hl, q1⟩ := q
  subst eo ei
  cases (show ov = Value.ref a from ro)
  cases (show iv = Value.ref b from ri)
  obtain ⟨z, hd, vs, rel, dd⟩ := dn_rd I.hok (.inl e) kn
  have hz : vs.length ≤ sizeLine := by rw [← Paired.length rel]; exact z
  refine wpAny_setItem_heap (hsz := hz) (room_n hu) ⟨NKey.is I.hok _ _ _ nk rfl, dk⟩ dd fun h' dd' hs => ⟨_, d_write I (by rw [e]; exact True.intro) hs (let ⟨o, _, _, ho, _⟩ := dd'; ⟨o, ho⟩) (dn_ok ?_ hd (rel.put k b rv) dd'), q1⟩
  have := putN_len xs k b v
  omega
/-- k in d -/
def tNIn (P : Program) (w : World) (ty td : TE) : TE := fun σ H Q => ty σ H fun y H1 => td σ H1 fun x H2 => ∃ a xs k b, x = .ref a ∧ y = .ref b ∧ RdN P w H2 a xs ∧ KN H2 xs ∧ NKey H2 k (.ref b) ∧ k.depth ≤ 8 ∧ Q (.bl (valN xs k).isSome) H2
/-- d.get(k, x) of a dict, locked or not -/
def tNGet3 (P : Program) (w : World) (td ty tx : TE) : TE := fun σ H Q => td σ H fun x H1 => ∃ a xs1, x = .ref a ∧ RdN P w H1 a xs1 ∧ KN H1 xs1 ∧ ty σ H1 fun y H2 => tx σ H2 fun z H3 =>
  ∃ xs k b, RdN P w H3 a xs ∧ KN H3 xs ∧ y = .ref b ∧ NKey H3 k (.ref b) ∧ k.depth ≤ 8 ∧ Q ((valN xs k).getD z) H3
end
/-- the keys of the locked dict, in their order -/
def ItN (P : Program) (w : World) (d : Addr) (o : Obj) (xs : List (NestedKey × Addr × V)) : It :=
  ⟨fun i H => H d = some (.frz o (DN P w d xs)) ∧ i < xs.length, fun i H x H' => H' = H ∧ ∃ (k : NestedKey) (q : Addr) (v : V), xs[i]? = some (k, q, v) ∧ x = .ref q, fun i H => H d = some (.frz o (DN P w d xs)) ∧ xs.length ≤ i⟩
theorem frzN {X : Cx} {pins : List (Addr × Obj)} {σ : L2.St} {H : Hp} {s : Shared} {d : Addr} {o : Obj} {xs : List (NestedKey × Addr × V)} (I : Inv X pins σ H s) (e : H d = some (.frz o (DN X.prog X.w d xs))) :
    (d == sysModules) = false ∧ s.heap.get? d = some o ∧ o.ExactDict ∧ ∃ (es : Array DictEntry) (ep : Nat), o.data = .dict es ep ∧ es.size = xs.length ∧
      ∀ (i : Nat) (k : NestedKey) (q : Addr) (v : V), xs[i]? = some (k, q, v) → ∃ en : DictEntry, es[i]? = some en ∧ en.key = .ref q := by
  obtain ⟨hd, ⟨z, y, vs, r, o', es, ep, ho, hx, hdt, he, _⟩, _⟩ := (show ObjOk X.prog X.w H s.heap d (.frz o (DN X.prog X.w d xs)) from I.hok d _ e)
  rw [hd] at ho
  cases ho
  refine ⟨y, hd, hx, es, ep, hdt, ?_, fun i k q v e => ?_⟩
  · have l1 : es.size = vs.length := by
      have := congrArg List.length he
      rwa [List.length_map, Array.length_toList] at this
    have l2 : xs.length = vs.length := Paired.length r
    omega
  · have : ∀ {l : List (NestedKey × Addr × V)} {m : List (NestedKey × Addr × Value)}, PN l m → ∀ {i : Nat}, l[i]? = some (k, q, v) → ∃ u, m[i]? = some (k, q, u) := fun {l m} p => by
      induction p with
      | nil => intro i h; simp at h
      | @cons a b as bs h t ih =>
        intro i hi
        cases i with
        | zero =>
          simp only [List.getElem?_cons_zero, Option.some.injEq] at hi ⊢
          subst hi
          exact ⟨b.2.2, by rw [show k = b.1 from h.1, show q = b.2.1 from h.2.1]⟩
        | succ j =>
          simp only [List.getElem?_cons_succ] at hi ⊢
          exact ih hi
    obtain ⟨u, hu⟩ := this r e
    refine ⟨entryOfKey (nestedKind X.prog X.w) (k, q, u), ?_, rfl⟩
    rw [← Array.getElem?_toList, he, List.getElem?_map, hu]
    rfl
section
variable {P : Program} {w : World} {K : PySem.W.Frag} {tg : PySem.Expr} {d : Addr} {o : Obj} {es : Array DictEntry} {ep : Nat} {xs : List (NestedKey × Addr × V)}
theorem turn_n (t : Addr) (hod : o.data = .dict es ep) : Turn P w K tg (ItN P w d o xs) [t] t (fun j g => g.IsKeyIter t d j xs.length ep) where
  mem := by simp
  obj := fun j g sj b hb => by
    obtain rfl : b = t := by simpa using hb
    obtain ⟨oj, e1, e2, e3⟩ := sj
    exact ⟨oj, e1, fun v z => by rw [e3] at z; cases z⟩
  keep := fun j g g' sj kp => sj.at fun oj e1 => kp t (by simp) oj e1
  item := by
    intro Y eP ew eK ec j pn u τ G Z J fr sj gj
    subst eP ew eK
    obtain ⟨gd, lt⟩ := gj
    obtain ⟨f0, f1, f2, f3, f4, f5⟩ := fr t (by simp)
    obtain ⟨ns, dd, dx, es2, ep2, e1, sz, ent⟩ := frzN J gd
    obtain ⟨rfl, rfl⟩ := dict_ep hod e1
    obtain ⟨⟨k, q, v⟩, hk⟩ : ∃ p, xs[j]? = some p := ⟨xs[j], List.getElem?_eq_getElem lt⟩
    obtain ⟨en, hen, hkey⟩ := ent j k q v hk
    refine next_key_item sj dd e1 sz hen fun g2 sj2 sb => ?_
    have J2 : Inv Y pn τ G { u with heap := g2 } := J.turned (t' := u.toks) (fun b ob hb z => (sb.2 b hb).trans z) f0 f1 f3 f4 f5
    obtain ⟨oj, c1, c2, c3⟩ := id sj2
    exact ⟨en.key, rfl, go_of (s := { u with heap := g2 }) c1 c2 c3 (by decide) ⟨.ref q, G, J2, hkey, ⟨rfl, k, q, v, hk, rfl⟩, sj2, fun b hb => (fr b hb).1⟩⟩
  done := by
    intro Y eP ew eK ec j pn u τ G Z J fr sj gj
    subst eP ew eK
    obtain ⟨gd, lt⟩ := gj
    obtain ⟨f0, f1, f2, f3, f4, f5⟩ := fr t (by simp)
    obtain ⟨ns, dd, dx, es2, ep2, e1, sz, ent⟩ := frzN J gd
    obtain ⟨rfl, rfl⟩ := dict_ep hod e1
    exact next_key_end (J.ok.hd ec) sj dd e1 sz lt fun g2 eb => ⟨rfl, J.turned (t' := u.toks) (fun b ob hb z => eb b ob hb z) f0 f1 f3 f4 f5⟩
  self := fun A j u Q Z sj h => by
    refine wpAny_pyIter_slot sj.typeIs F.slot_dict_keyiterator_iter (wpAny_call_entry F.slot_dict_keyiterator_iter sj.typeIs F.entry_dict_keyiterator_iter ?_ (F.args_dict_keyiterator_iter_1 _))
    show wpAny _ _ (ret (.ref t)) _ _ u
    exact wpAny_pure ⟨_, rfl, "dict_keyiterator", _, sj.typeIs, F.slot_dict_keyiterator_next.lookup, h⟩
end
/-- for k in d, the dict locked -/
def iKeysN (P : Program) (w : World) (td : TE) : TI := fun σ H R => td σ H fun x H1 => ∃ d o xs, x = .ref d ∧ H1 d = some (.frz o (DN P w d xs)) ∧ R (ItN P w d o xs) H1
theorem pi_n {X : Cx} {tg e : PySem.Expr} {td : TE} {P : Program} {w : World} (hP : X.prog = P) (hw : X.w = w) (he : PE X e td) : PI X tg e (iKeysN P w td) := by
  subst hP hw
  refine ⟨fun pn s τ G R J q => ?_⟩
  refine thn (he.run pn s τ G _ J q) fun u s1 ⟨x, G1, J1, rx, d, o, xs, ex, hd, q1⟩ => ?_
  subst ex
  obtain rfl : u = Value.ref d := rx
  obtain ⟨ns, dd, dx, es, ep, e1, sz, ent⟩ := frzN J1 hd
  refine iter_keys ns dd dx e1 (pi_one (tk := s1.toks) J1 _ (turn_n _ e1) ⟨_, Heap.get?_push_size _ rfl, rfl, ?_⟩ q1)
  rw [sz] <;> rfl
theorem walk_n {P : Program} {w : World} {d : Addr} {o : Obj} {xs : List (NestedKey × Addr × V)} : Walk (ItN P w d o xs) xs.length (fun H => H d = some (.frz o (DN P w d xs))) (fun i H x H' => H' = H ∧ ∃ (k : NestedKey) (q : Addr) (v : V), xs[i]? = some (k, q, v) ∧ x = .ref q) :=
  ⟨fun _ _ lt q => ⟨q, lt⟩, fun _ q => ⟨q, Nat.le_refl _⟩, fun _ _ _ _ _ _ y => y⟩
end MG

/-! MVc: what stands at a key behind a store -/
namespace MG
open PySem PySem.Spec PyProof.Rows L2
theorem valN_mem {xs : List (NestedKey × Addr × V)} {k : NestedKey} {v : V} (h : valN xs k = some v) : ∃ x ∈ xs, x.1 = k ∧ x.2.2 = v := by
  unfold valN at h
  obtain ⟨x, hx, e⟩ := Option.map_eq_some_iff.mp h
  exact ⟨x, List.mem_of_find?_eq_some hx, by have := List.find?_some hx; exact of_decide_eq_true this, e⟩
theorem valN_some {xs : List (NestedKey × Addr × V)} {k : NestedKey} (h : ∃ x ∈ xs, x.1 = k) : ∃ v, valN xs k = some v := by
  obtain ⟨x, hx, e⟩ := h
  cases hv : valN xs k with
  | some v => exact ⟨v, rfl⟩
  | none =>
    unfold valN at hv
    have := List.find?_eq_none.mp (Option.map_eq_none_iff.mp hv) x hx
    exact absurd (decide_eq_true e) this
/-- every entry behind a store is an old one, with its old value or the new one under the new key, or the new one -/
theorem putN_mem {xs : List (NestedKey × Addr × V)} {k : NestedKey} {b : Addr} {v : V} {x : NestedKey × Addr × V} (h : x ∈ putN xs k b v) : (x ∈ xs ∨ (x.1 = k ∧ x.2.2 = v ∧ ∃ y ∈ xs, y.1 = k ∧ y.2.1 = x.2.1)) ∨ x = (k, b, v) := by
  unfold putN at h
  split at h
  · obtain ⟨y, hy, rfl⟩ := List.mem_map.mp h
    by_cases e : y.1 = k
    · rw [if_pos e]
      exact .inl (.inr ⟨e, rfl, y, hy, e, rfl⟩)
    · rw [if_neg e]
      exact .inl (.inl hy)
  · rcases List.mem_append.mp h with h | h
    · exact .inl (.inl h)
    · exact .inr (List.mem_singleton.mp h)
theorem putN_has {xs : List (NestedKey × Addr × V)} {k : NestedKey} {b : Addr} {v : V} : ∃ x ∈ putN xs k b v, x.1 = k := by
  unfold putN
  split
  · rename_i h
    obtain ⟨w, hw⟩ := Option.isSome_iff_exists.mp h
    obtain ⟨x, hx, e, _⟩ := valN_mem hw
    exact ⟨_, List.mem_map_of_mem hx, by rw [if_pos e]; exact e⟩
  · exact ⟨_, List.mem_append_right _ (List.mem_singleton.mpr rfl), rfl⟩
theorem putN_keep {xs : List (NestedKey × Addr × V)} {k : NestedKey} {b : Addr} {v : V} {l : NestedKey} (h : ∃ x ∈ xs, x.1 = l) : ∃ x ∈ putN xs k b v, x.1 = l := by
  obtain ⟨x, hx, e⟩ := h
  unfold putN
  split
  · refine ⟨_, List.mem_map_of_mem hx, ?_⟩
    split
    · exact e
    · exact e
  · exact ⟨x, List.mem_append_left _ hx, e⟩
/-- a row as a key, a pair of rows -/
def rk (r : List Int) : NestedKey := .tup (r.map NestedKey.num)
def pk (r o : List Int) : NestedKey := .tup [rk r, rk o]
theorem rk_inj {r o : List Int} (h : rk r = rk o) : r = o := by
  have e : r.map NestedKey.num = o.map NestedKey.num := NestedKey.tup.inj h
  have : ∀ {x y : List Int}, x.map NestedKey.num = y.map NestedKey.num → x = y := fun {x} => by
    induction x with
    | nil => intro y h; cases y with | nil => rfl | cons _ _ => cases h
    | cons a x ih =>
      intro y h
      cases y with
      | nil => cases h
      | cons c y =>
        obtain ⟨h1, h2⟩ := List.cons.inj h
        rw [NestedKey.num.inj h1, ih h2]
  exact this e
theorem pk_inj {r o r' o' : List Int} (h : pk r o = pk r' o') : r = r' ∧ o = o' := by
  obtain ⟨h1, h2⟩ := List.cons.inj (NestedKey.tup.inj h)
  exact ⟨rk_inj h1, rk_inj (List.cons.inj h2).1⟩
theorem nk_ints {H : Hp} : ∀ r : List Int, NKeys H (r.map NestedKey.num) (r.map V.int)
  | [] => .nil
  | x :: r => .cons (.int x) (nk_ints r)
theorem nk_pk {H : Hp} {q a c : Addr} {r o : List Int} (eq : H q = some (.tup [.ref a, .ref c])) (ea : H a = some (.tup (r.map V.int))) (ec : H c = some (.tup (o.map V.int))) : NKey H (pk r o) (.ref q) :=
  .tup eq (.cons (.tup ea (nk_ints r)) (.cons (.tup ec (nk_ints o)) .nil))
theorem depth_nums : ∀ r : List Int, NestedKey.depthAll (r.map NestedKey.num) = 0
  | [] => by rw [List.map_nil, NestedKey.depthAll]
  | x :: r => by rw [List.map_cons, NestedKey.depthAll, depth_nums r, NestedKey.depth]; rfl
theorem pk_depth (r o : List Int) : (pk r o).depth ≤ 8 := by
  unfold pk rk
  simp only [NestedKey.depth, NestedKey.depthAll, depth_nums]
  decide
end MG

/-! MG: an exception caught under a name, and kept by another one behind the suite -/
namespace MG
open PySem PySem.Spec PyProof.Rows L2

/-- an exception of the class cls, without attributes, kept at a -/
def ExI (cls : Value) (a : Addr) : HO := .ext fun h => ∃ (oe : Obj) (vs : Array Value), h.get? a = some oe ∧ Zc cls none oe ∧ oe.data = .fields vs

section
variable {X : Cx} {pins : List (Addr × Obj)} {σ : L2.St} {H : Hp} {s : Shared}
end

/-- what is wished of an exception of the body, where the suite keeps it: it is of the clause's class; behind the suite it is known -/
def wKeep (K : PySem.W.Frag) (c : Value) (i : Nat) (ts : Addr → Value → TS) (D : Ends) : WX := fun cls d σ H =>
  d = none ∧ PySem.W.exmOne K cls c = some true ∧ ∀ a, H a = none →
    ts a cls { nx := fun σ' H' => H' a = none → D.nx (σ'.set i none) (upd H' a (ExI cls a)), rt := fun _ _ => False, bk := fun _ _ => False, ct := fun _ _ => False } (σ.set i (some (.ref a))) H

section
variable {X : Cx} {x n : Str} {c : Value} {i : Nat} {body suite : List Stmt} {b₀ : Stmt} {np pos pos' : Pos} {tb : WX → TS} {ts : Addr → Value → TS}
end
end MG

/-! MG: isinstance of a kept exception, or of anything else -/
namespace MG
open PySem PySem.Spec PyProof.Rows L2
/-- a value's type: that of a kept exception too -/
inductive TyE (K : PySem.W.Frag) (H : Hp) : V → Value → Prop where
  | other {x : V} {t : Value} (h : TyX K H x t) : TyE K H x t
  | exc {a D : Addr} (C : ExcC K D) (e : H a = some (ExI (.ref D) a)) : TyE K H (.ref a) (.ref D)
section
variable {X : Cx} {pins : List (Addr × Obj)} {σ : L2.St} {H : Hp} {s : Shared}
end
/-- isinstance(x, c) -/
def rIsO (K : PySem.W.Frag) : List V → Hp → VK → Prop := fun xs H Q => ∃ (x c : V) (t u : Value) (b : Bool), xs = [x, c] ∧ ClsV c u ∧ TyE K H x t ∧ PySem.W.kitOne K t u = some b ∧ Q (.bl b) H
/-- isinstance(x, (c, ..)) -/
def rIsOT (K : PySem.W.Frag) : List V → Hp → VK → Prop := fun xs H Q => ∃ (x : V) (tp : Addr) (cs : List V) (t : Value) (us : List Value) (b : Bool), xs = [x, .ref tp] ∧ H tp = some (.tup cs) ∧ Paired ClsV cs us ∧ TyE K H x t ∧ PySem.W.kitAny K t us = some b ∧ Q (.bl b) H
section
variable {X : Cx}
end
end MG
namespace MG
open PySem PySem.Spec PyProof.Rows L2
/-- what is known of an own exception class that is raised with a text -/
structure ExcF (K : PySem.W.Frag) (mg : Str → Option Value) (x : Str) (C : Addr) : Prop where
  g : mg x = some (.ref C)
  x : PySem.W.excIn K C [.type "ValueError", .type "Exception", .type "BaseException", .type "object"] "ValueError.__new__" = true
  k : PySem.W.keepIn K (.ref C) = true
  b : PySem.W.subIn K (.ref C) (.type "BaseException") = some true
  t : PySem.W.typeIn K (.ref C) = some (.type "type")
end MG
namespace MG
open PySem PySem.Spec PyProof.Rows L2
end MG
namespace MG
end MG

/-! MG: f(b=.., a=..), every parameter by its name, the last one first; defs that know their code object where no repr is under way -/
namespace MG
open PySem PySem.Spec PyProof.Rows L2
/-- how names bind, the last parameter's first -/
def RB (K : PySem.W.Frag) (fd : FuncData) (ps : List Str) : Prop :=
  ∀ (s : Shared) (us : List Value), K.In s.heap → us.length = ps.length → BindsTo s fd ⟨[], ps.reverse.zip us⟩ (ps.zip us.reverse)
/-- the arguments' reading, then the promise of them in the def's order -/
def tCallR (sp : Sp) (E : XK) (tk : TA) : TE := fun σ H Q => tk σ H fun zs H2 => sp zs.reverse H2 Q E
section
variable {X : Cx} {k : Nat} {f : Addr} {fd : FuncData} {ps : List Str} {sp : Sp} {E : XK} {x : Str} {p pos : Pos} {kws : List Keyword} {tk : TA}
end
section
variable {P : Program} {w : World} {K : PySem.W.Frag} {mg : Str → Option Value} {base : Heap}
end
end MG
namespace MG
open PySem PySem.Spec PyProof.Rows L2 LamX
/-- what repr asks -/
def ReprOk (d : PyData) : Prop := d.showable = true ∧ d.depth ≤ 60 ∧ d.shown.length ≤ sizeLine
/-- repr's rule at hand -/
abbrev rRepr : List V → Hp → VK → Prop := fun xs H Q => ∃ x d, xs = [x] ∧ Dd H x d ∧ d.showable = true ∧ d.depth ≤ 60 ∧ d.shown.length ≤ sizeLine ∧ Q (.str d.shown) H
end MG

/-! MJe: data whose ints are small, its repr bounded; the heap without what is changed -/
namespace MG
open PySem PySem.Spec PyProof.Rows L2
mutual
/-- every int in it is small -/
def sm : PyData → Bool
  | .int i => decide (i ≤ 1000)
  | .tuple ds => smA ds
  | .list ds => smA ds
  | _ => true
def smA : List PyData → Bool
  | [] => true
  | d :: ds => sm d && smA ds
end
/-- v is data in H: at most n deep, its repr at most c signs, its ints small -/
def Db (H : Hp) (n c : Nat) (v : V) : Prop := ∃ d, Dd H v d ∧ d.showable = true ∧ d.depth ≤ n ∧ d.shown.length ≤ c ∧ sm d = true
/-- the heap without what is changed -/
def rmT (S : List Addr) (H : Hp) : Hp := fun a => if a ∈ S then none else H a
/-- all but what is in S stays -/
def SO (S : List Addr) (H H' : Hp) : Prop := ∀ a o, a ∉ S → H a = some o → H' a = some o
end MG

/-! MKa: the order of 2 by an odd number: what the program's parting into primes finds. Pure mathematics. -/
namespace Rn
/-- a prime -/
def Pr (p : Nat) : Prop := 2 ≤ p ∧ ∀ d, d ∣ p → d = 1 ∨ d = p
/-- 2 to so many, less 1 -/
def Mo (m : Nat) : Nat := 2 ^ m - 1
/-- 1 + x + .. -/
def geo (x : Nat) : Nat → Nat
  | 0 => 0
  | n + 1 => geo x n + x ^ n
/-- how many ways to take k of n -/
def ch : Nat → Nat → Nat
  | _, 0 => 1
  | 0, _ + 1 => 0
  | n + 1, k + 1 => ch n k + ch n (k + 1)
/-- the first m of a row together -/
def row (n : Nat) : Nat → Nat
  | 0 => 0
  | m + 1 => row n m + ch n m
/-- the number's own way: for each prime, parted by it, times one less -/
def tot (many : Nat) : List Nat → Nat
  | [] => many
  | p :: ps => tot (many / p * (p - 1)) ps
/-- the least number of doublings that give 1 by rests -/
def Ord (w t : Nat) : Prop := 0 < t ∧ w ∣ Mo t ∧ ∀ d, 0 < d → w ∣ Mo d → t ≤ d
/-- `ps` are just the primes of n -/
def Prs (n : Nat) (ps : List Nat) : Prop := ps.Nodup ∧ ∀ p, p ∈ ps ↔ Pr p ∧ p ∣ n
end Rn

/-! MKb: the program's loops in the ring: primes taken out, doublings to one, the ring of two. Pure mathematics. -/
namespace Rn
/-- where the search for primes stands -/
structure PI (n0 : Nat) (ps : List Nat) (q n : Nat) : Prop where
  pos : 0 < n
  dv : n ∣ n0
  q2 : 2 ≤ q
  odd : q = 2 ∨ q % 2 = 1
  no : ∀ d, 2 ≤ d → d < q → ¬ d ∣ n
  all : ∀ p, Pr p → (p ∣ n0 ↔ p ∈ ps ∨ p ∣ n)
  pr : ∀ p ∈ ps, Pr p ∧ p < q
  nd : ps.Nodup
/-- taking one prime out: where it stands within -/
structure PO (q n m : Nat) : Prop where
  m0 : 0 < m
  ex : ∃ f, n = q ^ f * m
/-- how far the primes of a number are taken out of it -/
structure DI (w t0 : Nat) (done : List Nat) (t : Nat) : Prop where
  pos : 0 < t
  mo : w ∣ Mo t
  dv : t ∣ t0
  no : ∀ q ∈ done, ¬ (q ∣ t ∧ w ∣ Mo (t / q))
/-- the ring of two, p and q: the least number of doublings by rests behind which p is there again -/
def Again (p s k : Nat) : Prop := p * 2 ^ k % s = p % s
/-- what a ring is told by: none, of an even number of shares; else its order -/
def RingOf (p q : Nat) : Option Nat → Prop
  | none => ∀ k, 0 < k → ¬ Again p (p + q) k
  | some t => 0 < t ∧ Again p (p + q) t ∧ ∀ k, 0 < k → Again p (p + q) k → t ≤ k
end Rn

/-! MKc: a while by a measure, its test read as it stands -/
namespace MG
open PySem PySem.Spec PyProof.Rows L2
end MG
namespace MG
open PySem PySem.Spec PyProof.Rows L2
end MG

/-! MKd: rings of two, gone plainly, undone. Pure mathematics. -/
namespace Rn
/-- what the first one has behind m deeds -/
def xv (p s m : Nat) : Nat := p * 2 ^ m % s
end Rn
namespace MG
open PySem PySem.Spec PyProof.Rows L2
/-- what two have behind m deeds -/
def pr0 (p q m : Nat) : Int × Int := ((Rn.xv p (p + q) m : Nat), ((p + q - Rn.xv p (p + q) m : Nat) : Int))
def kq (p q k : Nat) : List (Int × Int) := (List.range k).map (pr0 p q)
end MG
namespace Rn
/-- gone plainly: at which it comes again, or that one has nothing -/
structure GoEnd (p q n : Nat) (ag : Option Nat) : Prop where
  n0 : 1 ≤ n
  dis : ∀ a b, a < b → b < n → xv p (p + q) a ≠ xv p (p + q) b
  pos : ∀ m, m + 1 < n → 0 < xv p (p + q) m
  fin : match ag with
    | none => xv p (p + q) (n - 1) = 0
    | some i => i < n ∧ xv p (p + q) n = xv p (p + q) i ∧ 0 < xv p (p + q) (n - 1)
end Rn

/-! MKe: known orders of 2; rings by their shares. Pure mathematics. -/
namespace Rn
/-- 2 to so many by rests, by squares -/
def pm (w : Nat) : Nat → Nat → Nat → Nat → Nat
  | 0, _, _, a => a
  | f + 1, t, b, a => pm w f (t / 2) (b * b % w) (if t % 2 = 1 then a * b % w else a)
end Rn

/-! RDa: steps of a trail, ahead or from behind; turned round; as runs -/
namespace RD
open MG Rn
/-- amounts at two places written anew -/
def put2 (r : List Int) (i j : Nat) (x y : Int) : List Int := (r.set j y).set i x
abbrev Stp := Nat × Nat × Int
/-- what the second one has behind a step -/
def upA (b k : Int) : Int := if k > 0 then b * 2 ^ k.toNat else b / 2 ^ (-k).toNat
def goS (r : List Int) (s : Stp) : List Int := put2 r s.1 s.2.1 (r.getD s.1 0 + (r.getD s.2.1 0 - upA (r.getD s.2.1 0) s.2.2)) (upA (r.getD s.2.1 0) s.2.2)
/-- a step that may be done: from behind (true) or ahead -/
structure StOk (bh : Bool) (r : List Int) (s : Stp) : Prop where
  hi : s.1 < r.length
  hj : s.2.1 < r.length
  ne : s.1 ≠ s.2.1
  pj : 0 < r.getD s.2.1 0
  pi : 0 ≤ r.getD s.1 0
  way : (0 < s.2.2 ∧ (2 ^ s.2.2.toNat - 1) * r.getD s.2.1 0 ≤ r.getD s.1 0 ∧ (bh = true → (r.getD s.1 0 + r.getD s.2.1 0) % 2 = 1)) ∨
        (s.2.2 < 0 ∧ (2 ^ (-s.2.2).toNat : Int) ∣ r.getD s.2.1 0 ∧ (bh = false → 0 < r.getD s.1 0 ∧ (r.getD s.1 0 + r.getD s.2.1 0) % 2 = 1))
def OkS (bh : Bool) : List Int → List Stp → Prop
  | _, [] => True
  | r, s :: t => StOk bh r s ∧ OkS bh (goS r s) t
def goT : List Int → List Stp → List Int
  | r, [] => r
  | r, s :: t => goT (goS r s) t
/-- the steps that undo these -/
def turn (L : List Stp) : List Stp := L.reverse.map fun s => (s.1, s.2.1, -s.2.2)
/-- the run of a step: how many deeds -/
def mny (t : Nat) (k : Int) : Int := if k > 0 then k else k % t
end RD

/-! RDb: what steps keep; a fall -/
namespace RD
open MG Rn
/-- all amounts are at least 0 -/
def Nn (r : List Int) : Prop := ∀ p, 0 ≤ r.getD p 0
/-- how many amounts are odd -/
def oc (r : List Int) : Int := (r.map fun n => n % 2).sum
/-- what is kept on the way -/
structure Kp (r r' : List Int) : Prop where
  len : r'.length = r.length
  sum : r'.sum = r.sum
  pos : ∀ p, 0 < r'.getD p 0 ↔ 0 < r.getD p 0
  nn : Nn r → Nn r'
  dv : ∀ d : Nat, d % 2 = 1 → (∀ p, (d : Int) ∣ r'.getD p 0) → ∀ p, (d : Int) ∣ r.getD p 0
  oc : oc r' = oc r
/-- how often one can give another one and still have something -/
def mostG (x b : Nat) : Nat := Nat.log2 ((x - 1) / b + 1)
/-- behind a fall -/
def fallR (r : List Int) (p b t : Nat) : List Int := put2 r p t ((r.getD p 0 - 1) % r.getD b 0 + 1) (r.getD t 0 + (r.getD p 0 - ((r.getD p 0 - 1) % r.getD b 0 + 1)))
/-- a fall under way -/
structure FallI (bh : Bool) (r : List Int) (p b t K : Nat) (r' : List Int) (L : List Stp) (x k : Nat) : Prop where
  at_ : r' = put2 r p t (x : Int) (r.getD t 0 + (r.getD p 0 - x))
  ok : OkS bh r L
  go : goT r L = r'
  dv : r.getD b 0 ∣ r.getD p 0 - x
  x0 : 0 < x
  le : x ≤ 2 ^ k * (r.getD b 0).toNat
  ll : L.length + 2 * k ≤ 2 * K
  xx : (x : Int) ≤ r.getD p 0
/-- what a fall wants -/
structure FallP (bh : Bool) (r : List Int) (p b t K : Nat) : Prop where
  hp : p < r.length
  hb : b < r.length
  ht : t < r.length
  pb : p ≠ b
  bt : b ≠ t
  pt : p ≠ t
  p0 : 0 < r.getD p 0
  b0 : 0 < r.getD b 0
  t0 : 0 ≤ r.getD t 0
  le : (r.getD p 0).toNat ≤ 2 ^ K * (r.getD b 0).toNat
  way : r.getD p 0 ≤ r.getD b 0 ∨ (r.getD b 0 % 2 = 0 ∧ (bh = true → r.getD p 0 % 2 = 1) ∧ (bh = false → r.getD t 0 % 2 = 1))
end RD

/-! RDc: places; the way to 1 -/
namespace RD
open MG Rn
def oddP (r : List Int) : List Nat := (List.range r.length).filter fun p => decide (r.getD p 0 % 2 = 1)
def evenP (r : List Int) : List Nat := (List.range r.length).filter fun p => decide (0 < r.getD p 0) && decide (r.getD p 0 % 2 = 0)
/-- no odd number but 1 parts all -/
def Cop (r : List Int) : Prop := ∀ d : Nat, d % 2 = 1 → (∀ p, (d : Int) ∣ r.getD p 0) → d = 1
/-- what the way to 1 wants -/
structure FS (bh : Bool) (r : List Int) : Prop where
  nn : Nn r
  odd : 1 ≤ oc r
  ev : ∃ p, 0 < r.getD p 0 ∧ r.getD p 0 % 2 = 0
  cop : Cop r
  three : ∀ i j, ∃ p, p ≠ i ∧ p ≠ j ∧ 0 < r.getD p 0
  two : bh = false → 2 ≤ oc r
/-- one of the least at these places -/
def LeastIn (r : List Int) (ps : List Nat) (o : Nat) : Prop := o ∈ ps ∧ ∀ p ∈ ps, r.getD o 0 ≤ r.getD p 0
/-- a third one beside two -/
def Third (r : List Int) (i j t : Nat) : Prop := ((oddP r ++ evenP r).filter fun p => decide (p ≠ i) && decide (p ≠ j)).head? = some t
/-- behind the second way -/
def belowR (r : List Int) (o p g t : Nat) : List Int :=
  if r.getD o 0 < (fallR (goS r (g, o, 1)) p o t).getD p 0 then goS (fallR (goS r (g, o, 1)) p o t) (o, p, 1) else fallR (goS r (g, o, 1)) p o t
/-- the first place whose amount isn't parted -/
def FirstNd (r : List Int) (a : Int) (p : Nat) : Prop := r.getD p 0 % a ≠ 0 ∧ ∀ q, q < p → r.getD q 0 % a = 0
/-- one turn on the way to 1 -/
def FStep (r r' : List Int) : Prop := ∃ o e, LeastIn r (oddP r) o ∧ LeastIn r (evenP r) e ∧ 1 < r.getD o 0 ∧
  ((r.getD e 0 < r.getD o 0 ∧ ∃ t, Third r o e t ∧ r' = fallR r o e t) ∨
   (¬ r.getD e 0 < r.getD o 0 ∧ ∃ p g t, FirstNd r (r.getD o 0) p ∧ g ∈ evenP r ∧ (p ∈ evenP r → g = p) ∧ (p ∉ evenP r → (evenP r).head? = some g) ∧ Third (goS r (g, o, 1)) o p t ∧ r' = belowR r o p g t))
/-- no more than so many turns -/
def FB : Nat → List Int → Prop
  | 0, r => ∀ r', ¬ FStep r r'
  | n + 1, r => ∀ r', FStep r r' → FB n r'
end RD

/-! RDd: one odd amount alone: its way to 1, ahead -/
namespace RD
open MG Rn
def asS (ds : List (Nat × Nat)) : List Stp := ds.map fun d => (d.1, d.2, 1)
structure Kq (r r' : List Int) : Prop where
  len : r'.length = r.length
  sum : r'.sum = r.sum
  nn : Nn r'
  dv : ∀ d : Nat, d % 2 = 1 → (∀ p, (d : Int) ∣ r'.getD p 0) → ∀ p, (d : Int) ∣ r.getD p 0
  oc : oc r' = 1
/-- behind a turn in which the greatest one gave -/
def LI (r : List Int) : Nat → Bool → Prop
  | e, true => ∃ p, 0 < r.getD p 0 ∧ r.getD p 0 < 2 ^ e
  | e, false => ∃ v w u, 0 < r.getD v 0 ∧ r.getD v 0 < 2 ^ e ∧ r.getD v 0 < r.getD w 0 ∧ r.getD u 0 % r.getD v 0 ≠ 0 ∧ r.getD u 0 < r.getD w 0 ∧ 0 < r.getD u 0
def turnsL (e : Nat) (tag : Bool) : Nat := 2 * e + (if tag then 1 else 0)
end RD

/-! RDe: to a form -/
namespace RD
open MG Rn
/-- one has the rest, an odd amount, all others 1 or 2, one 2 at least -/
structure Form (r : List Int) (rest : Nat) : Prop where
  nn : Nn r
  rodd : r.getD rest 0 % 2 = 1
  else_ : ∀ p, p ≠ rest → r.getD p 0 ≤ 2
  two : ∃ p, p ≠ rest ∧ r.getD p 0 = 2
/-- from behind: even ones come to 2 -/
structure E2 (r : List Int) (odd rest : Nat) (todo : List Nat) : Prop where
  fs : FS true r
  one : r.getD odd 0 = 1
  re : 0 < r.getD rest 0 ∧ r.getD rest 0 % 2 = 0
  nd : todo.Nodup
  ev : ∀ q ∈ todo, r.getD q 0 % 2 = 0
  big : ∀ p, p ≠ rest → r.getD p 0 % 2 = 0 → 2 < r.getD p 0 → p ∈ todo
/-- the last falls -/
structure TL (bh : Bool) (r : List Int) (odd rest : Nat) (todo : List Nat) : Prop where
  nn : Nn r
  two : r.getD odd 0 = 2
  re : r.getD rest 0 % 2 = 1
  pos : ∀ q ∈ todo, 0 < r.getD q 0
  big : ∀ p, p ≠ rest → 2 < r.getD p 0 → p ∈ todo
  be : bh = true → ∀ p, p ≠ rest → r.getD p 0 % 2 = 0 → r.getD p 0 ≤ 2
end RD

/-! RDf: from behind a form, another one is come to -/
namespace RD
open MG Rn
/-- how many have something -/
def hc (r : List Int) : Int := (r.map posF).sum
/-- the places that have just this amount -/
def ofP (r : List Int) (n : Int) : List Nat := (List.range r.length).filter fun p => decide (r.getD p 0 = n)
/-- as long as somebody has to join -/
structure CL (b : List Int) (rest : Nat) (goal : List Int) (J : List Nat) (pairs : Int) : Prop where
  form : Form b rest
  goalF : ∃ g, Form goal g
  len : b.length = goal.length
  sum : b.sum = goal.sum
  J_ : ∀ p, p ∈ J ↔ 0 < goal.getD p 0 ∧ b.getD p 0 = 0
  nd : J.Nodup
  sub : ∀ p, 0 < b.getD p 0 → 0 < goal.getD p 0
  oc : oc goal = oc b + 2 * pairs
  hc : hc goal = hc b + J.length
end RD

/-! RDg: another one has the rest; ones are changed -/
namespace RD
open MG Rn
/-- what stays while the rest is handed over -/
structure Same2 (b b' : List Int) : Prop where
  len : b'.length = b.length
  sum : b'.sum = b.sum
  pos : ∀ p, 0 < b'.getD p 0 ↔ 0 < b.getD p 0
  oc : oc b' = oc b
/-! ### ones are changed -/
/-- pairs done one behind the other: each first one gives its second one -/
def pairS (M : List (Nat × Nat)) : List Stp := asS M
structure ChI (b goal : List Int) (M : List (Nat × Nat)) : Prop where
  nn : Nn b
  len : b.length = goal.length
  at_ : ∀ d ∈ M, b.getD d.1 0 = 2 ∧ goal.getD d.1 0 = 1 ∧ b.getD d.2 0 = 1 ∧ goal.getD d.2 0 = 2
  nd1 : (M.map Prod.fst).Nodup
  nd2 : (M.map Prod.snd).Nodup
  else_ : ∀ p, p ∉ M.map Prod.fst → p ∉ M.map Prod.snd → b.getD p 0 = goal.getD p 0
/-- who has too much, who too little -/
def muchP (b goal : List Int) : List Nat := (ofP b 2).filter fun p => decide (goal.getD p 0 = 1)
def littleP (b goal : List Int) : List Nat := (ofP goal 2).filter fun p => decide (b.getD p 0 = 1)
end RD

/-! RDh: widened from behind; begun ahead -/
namespace RD
open MG Rn
/-- what a road is asked of: ahead r, behind o -/
structure RP (r o : List Int) : Prop where
  len : o.length = r.length
  nnr : Nn r
  nno : Nn o
  sum : o.sum = r.sum
  sub : ∀ p, 0 < o.getD p 0 → 0 < r.getD p 0
  copr : Cop r
  copo : Cop o
  oddr : 1 ≤ oc r
  three : ∀ i j, ∃ p, p ≠ i ∧ p ≠ j ∧ 0 < r.getD p 0
  s3 : r.sum ≠ 3
  way : oc o = 0 ∨ (1 ≤ oc o ∧ oc o ≤ oc r ∧ ∃ p, 0 < o.getD p 0 ∧ o.getD p 0 % 2 = 0)
/-- behind, widened -/
structure Wd (r b : List Int) : Prop where
  fs : FS true b
  len : b.length = r.length
  sum : b.sum = r.sum
  sub : ∀ p, 0 < b.getD p 0 → 0 < r.getD p 0
  oc : oc b ≤ oc r
  all : (∀ p, 0 < r.getD p 0 → r.getD p 0 % 2 = 1) → RD.oc b + 2 ≤ RD.oc r
/-- two have something, an odd amount and an even one -/
structure TwoOE (o : List Int) (x y : Nat) : Prop where
  ox : o.getD x 0 % 2 = 1
  ey : o.getD y 0 % 2 = 0
  y0 : 0 < o.getD y 0
  only : ∀ p, p ≠ x → p ≠ y → o.getD p 0 = 0
def farT (o : List Int) (y : Nat) : Nat := (3 * o.getD y 0 - 2 * o.sum).natAbs
/-! ### ahead -/
/-- ahead, begun -/
structure Bg (r r1 b : List Int) : Prop where
  fs : FS true r1
  len : r1.length = r.length
  sum : r1.sum = r.sum
  sub : ∀ p, 0 < b.getD p 0 → 0 < r1.getD p 0
  oc : oc b ≤ oc r1
  up : ∀ p, 0 < r1.getD p 0 → 0 < r.getD p 0
end RD

/-! RDi: what no clause broken gives a road -/
namespace RD
open MG Rn
/-- amounts divided -/
def dvL (g : Nat) (r : List Int) : List Int := r.map fun n => n / g
end RD

/-! MNa: t.index(k) of whole numbers; sorted(set(xs)) of a list of them -/
namespace MG
open PySem PySem.Spec PyProof.Rows L2
section
variable {X : Cx}
end
section
variable {P : Program} {w : World} {A : Around} {E : Value → Shared → Prop} {s : Shared}
/-- a new set, nothing in it -/
def bare (w : World) : Obj := { cls := .type "set", dict := none, data := .set #[] 0 (.fresh 0 0 (!w.params.followText "set-order")) }
end
section
variable {X : Cx}
end
end MG

/-! MNb: a tuple just made is known to have no attributes of its own, so its methods can be asked -/
namespace MG
open PySem PySem.Spec PyProof.Rows L2
section
variable {X : Cx}
/-- t.index(k), t a tuple whose object is told; it may be told no more behind that -/
def tIdx (X : Cx) (to : TE) (t : TA) : TE := fun σ H Q => to σ H fun x H1 => ∃ (p : Addr) (ob : Obj) (ys : List Int), x = .ref p ∧ H1 p = some (.frz ob (.tup (ys.map V.int))) ∧ ob.cls = .type "tuple" ∧ ob.dict = none ∧
  t σ H1 fun xs H2 => ∃ k : Int, xs = [.int k] ∧ H2 p = some (.frz ob (.tup (ys.map V.int))) ∧ k ∈ ys ∧ (Q (.int (ys.idxOf k : Nat)) H2 ∨ (X.H_0 p = none ∧ Q (.int (ys.idxOf k : Nat)) (upd H2 p (.tup (ys.map V.int)))))
end

end MG

/-! MOa: a store in the heap -/
namespace MG
open PySem PySem.Spec PyProof.Rows L2 LamX
/-- a list of tuples of whole numbers, by their places -/
def LstAt (H : Hp) (l : Addr) (es : List (Addr × List Int)) : Prop := H l = some (.lst (es.map fun e => V.ref e.1)) ∧ ∀ e ∈ es, H e.1 = some (.tup (e.2.map V.int))
def sF (ls lm la : Addr) : List (Str × V) := putF "aims" (.ref la) (putF "made" (.ref lm) (putF "stood" (.ref ls) []))
/-- what is known of the class, of its text -/
structure StT (K : PySem.W.Frag) (C : Addr) : Prop where
  cl : Cls K C
  nS : NoAttr K C "stood"
  nM : NoAttr K C "made"
  nA : NoAttr K C "aims"
/-- a store at x: its lists, the rows it stood at, the calls that stand, its goals -/
structure StA (C : Addr) (H : Hp) (x ls lm la : Addr) (rows calls : List (Addr × List Int)) (gs : List (Key × V)) : Prop where
  ins : ∃ dx, H x = some (.ins C dx (sF ls lm la))
  stood : LstAt H ls rows
  made : LstAt H lm calls
  aims : H la = some (.dK gs)
  ne : ls ≠ lm
section
variable {C x ls lm la : Addr} {H H' : Hp} {rows calls : List (Addr × List Int)} {gs : List (Key × V)}
end
/-- how many deeds these calls are -/
def dsOf (calls : List (Addr × List Int)) : Int := (calls.map fun c => if c.2.length = 2 then 1 else c.2.getD 2 0).sum
end MG

/-! MTc: a trail in the heap -/
namespace RD
open PySem PySem.Spec PyProof.Rows L2 MG
def tF (la ls : Addr) : List (Str × V) := putF "steps" (.ref ls) (putF "amounts" (.ref la) [])
/-- what is known of the class -/
structure TrT (K : PySem.W.Frag) (C : Addr) : Prop where
  cl : Cls K C
  nA : NoAttr K C "amounts"
  nS : NoAttr K C "steps"
def stO (s : Stp) : Option HO := some (.tup [.int s.1, .int s.2.1, .int s.2.2])
/-- a trail at x: its amounts, its steps -/
structure TrAt (C : Addr) (H : Hp) (x la ls : Addr) (r : List Int) (L : List Stp) : Prop where
  ins : ∃ dx, H x = some (.ins C dx (tF la ls))
  am : H la = some (.lst (r.map V.int))
  st : ∃ ts : List Addr, H ls = some (.lst (ts.map V.ref)) ∧ ts.map H = L.map stO
  ne : la ≠ ls
/-- all but these two stays -/
def Off (la ls : Addr) (H H' : Hp) : Prop := ∀ b o, b ≠ la → b ≠ ls → H b = some o → H' b = some o
section
variable {C x la ls : Addr} {H H' : Hp} {r : List Int} {L : List Stp}
end
/-- a trail that was led here from r0 -/
structure Tr (C : Addr) (H : Hp) (x la ls : Addr) (bh : Bool) (r0 r : List Int) (N : Nat) : Prop where
  nn : Nn r
  sum : r.sum ≤ 10 ^ 9
  len : r.length ≤ 12
  path : ∃ L, TrAt C H x la ls r L ∧ OkS bh r0 L ∧ goT r0 L = r ∧ L.length ≤ N
section
variable {C x la ls : Addr} {H H' : Hp} {bh : Bool} {r0 r : List Int} {N : Nat}
end
end RD

/-! RDj: small things of rows -/
namespace RD
open MG Rn
end RD

/-! RDk: holders; the fewest twos -/
namespace RD
open MG Rn
def holdP (r : List Int) : List Nat := (List.range r.length).filter fun p => decide (0 < r.getD p 0)
end RD

/-! RDl: from behind a form to the goal: starts and ends -/
namespace RD
open MG Rn
def joinP (b goal : List Int) : List Nat := (holdP goal).filter fun p => decide (b.getD p 0 = 0)
end RD

/-! RDm: a way ahead, step by step -/
namespace RD
open MG Rn
end RD

/-! MG: truths over a row and wishes -/
namespace MG
open PySem PySem.Spec PyProof.Rows L2
def nothW (n : Int) : Option Int → Bool
  | some v => decide (0 < v) && decide (n = 0)
  | none => false
end MG

/-! RDn: what comes by deeds breaks no clause; walks over wishes and a row -/
namespace RD
open PySem PySem.Spec PyProof.Rows L2 MG
theorem re_free {r o : List Int} (nr : ∀ n ∈ r, 0 ≤ n) (h : Re r o) : brkF r o = [] := by
  induction h with
  | refl => exact brkF_nil.mpr (.inl rfl)
  | step g m ih =>
    have k := (g.keeps nr).2.2
    exact brk_trans nr k (deed_nn m k) ih (brk_deed m k)
theorem re_freeT {r o : List Int} (nr : ∀ n ∈ r, 0 ≤ n) (c3 : 3 ≤ (hold r r.length).length) (h : Re r o) : brkT r o = [] := by
  rw [← brkF_three c3]; exact re_free nr h
/-- whether a row meets wishes -/
def meetB (r : List Int) (ws : List (Option Int)) : Bool := ((r.zip ws).map fun z => z.2.isNone || decide (z.2 = some z.1)).all id
end RD

namespace K70
open PySem PySem.Spec PyProof.Rows L2 MG
abbrev sRight : Stmt := topS 36
abbrev nRight : List Str := ["_law_box_here", "_law_row", "_law_line", "_law_turn", "_law_later", "_law_ahead", "_law_some", "_law_one", "_law_leads", "_law_other", "_law_third"]
theorem scRight : FnScope ["_law_box_here", "_law_row", "_law_line", "_law_turn", "_law_later", "_law_ahead", "_law_some", "_law_one", "_law_leads", "_law_other", "_law_third"] ["_law_box_here", "_law_row"] (defScope sRight) := ⟨rfl, rfl, rfl, by decide +kernel, rfl, by decide +kernel, by decide +kernel⟩
/-- rows stand there -/
def RwA (G : Hp) (ts : List Addr) (R : List (List Int)) : Prop := ts.length = R.length ∧ ∀ (i : Nat) (t : Addr) (m : List Int), ts[i]? = some t → R[i]? = some m → G t = some (.tup (m.map V.int))
theorem RwA.mono {G G' : Hp} {ts : List Addr} {R : List (List Int)} (h : RwA G ts R) (k : ∀ a xs, G a = some (.tup xs) → G' a = some (.tup xs)) : RwA G' ts R := ⟨h.1, fun i t m a b => k _ _ (h.2 i t m a b)⟩
theorem RwA.snoc {G : Hp} {ts : List Addr} {R : List (List Int)} (h : RwA G ts R) {t : Addr} {m : List Int} (e : G t = some (.tup (m.map V.int))) : RwA G (ts ++ [t]) (R ++ [m]) := by
  refine ⟨by rw [List.length_append, List.length_append, h.1]; rfl, fun i t' m' a b => ?_⟩
  by_cases hi : i < ts.length
  · rw [List.getElem?_append_left hi] at a
    rw [List.getElem?_append_left (by rw [← h.1]; exact hi)] at b
    exact h.2 i t' m' a b
  · rw [List.getElem?_append_right (by omega)] at a
    rw [List.getElem?_append_right (by rw [← h.1]; omega)] at b
    have i0 : i - ts.length = 0 := by have := (List.getElem?_eq_some_iff.mp a).1; rw [List.length_singleton] at this; omega
    rw [← h.1, i0] at b
    rw [i0] at a
    rw [← Option.some.inj a, ← Option.some.inj b]
    exact e
theorem RwA.get {G : Hp} {ts : List Addr} {R : List (List Int)} (h : RwA G ts R) {t : Addr} (ht : t ∈ ts) : ∃ m ∈ R, G t = some (.tup (m.map V.int)) := by
  obtain ⟨i, hi, rfl⟩ := List.mem_iff_getElem.mp ht
  have hR : i < R.length := by rw [← h.1]; exact hi
  exact ⟨R[i], List.getElem_mem hR, h.2 i _ _ (List.getElem?_eq_getElem hi) (List.getElem?_eq_getElem hR)⟩
theorem RwA.app {G : Hp} {ts us : List Addr} {R U : List (List Int)} (h : RwA G ts R) (k : RwA G us U) : RwA G (ts ++ us) (R ++ U) := by
  refine ⟨by rw [List.length_append, List.length_append, h.1, k.1], fun i t' m' a b => ?_⟩
  by_cases hi : i < ts.length
  · rw [List.getElem?_append_left hi] at a
    rw [List.getElem?_append_left (by rw [← h.1]; exact hi)] at b
    exact h.2 i t' m' a b
  · rw [List.getElem?_append_right (by omega)] at a
    rw [List.getElem?_append_right (by rw [← h.1]; omega), ← h.1] at b
    exact k.2 _ t' m' a b
theorem pos_of {o : List Int} (nn : ∀ n ∈ o, 0 ≤ n) (h : 0 < o.sum) : ∃ n ∈ o, 0 < n := by
  refine Classical.byContradiction fun z => ?_
  have : ∀ l : List Int, (∀ n ∈ l, 0 ≤ n) → (∀ n ∈ l, ¬ 0 < n) → l.sum = 0 := fun l => by
    induction l with
    | nil => intro _ _; rfl
    | cons a l ih =>
      intro h1 h2
      have := h1 a List.mem_cons_self
      have := h2 a List.mem_cons_self
      rw [List.sum_cons, ih (fun n hn => h1 n (List.mem_cons_of_mem _ hn)) fun n hn => h2 n (List.mem_cons_of_mem _ hn)]
      omega
  have := this o nn fun n hn h0 => z ⟨n, hn, h0⟩
  omega
/-- of the row's kind -/
def OkR (r m : List Int) : Prop := (∀ n ∈ m, 0 ≤ n) ∧ m.length = r.length ∧ m.sum = r.sum
def lead (r o : List Int) : Bool := decide (brkT r o = [])
/-- an entry of the dict -/
def Ent (G : Hp) (S : List (List Int)) (x : NestedKey × Addr × V) : Prop := ∃ (t u : Addr) (r o : List Int), r ∈ S ∧ o ∈ S ∧ x.1 = pk r o ∧ x.2.2 = .bl (lead r o) ∧ G x.2.1 = some (.tup [.ref t, .ref u]) ∧ G t = some (.tup (r.map V.int)) ∧ G u = some (.tup (o.map V.int))
theorem ent_mono {G G' : Hp} {S : List (List Int)} {xs : List (NestedKey × Addr × V)} (h : ∀ x ∈ xs, Ent G S x) (k : ∀ a xs, G a = some (.tup xs) → G' a = some (.tup xs)) : ∀ x ∈ xs, Ent G' S x := fun x hx => by
  obtain ⟨t, u, r, o, h1, h2, h3, h4, h5, h6, h7⟩ := h x hx
  exact ⟨t, u, r, o, h1, h2, h3, h4, k _ _ h5, k _ _ h6, k _ _ h7⟩
theorem ent_kn {G : Hp} {S : List (List Int)} {xs : List (NestedKey × Addr × V)} (h : ∀ x ∈ xs, Ent G S x) : KN G xs := fun x hx => by
  obtain ⟨t, u, r, o, h1, h2, h3, h4, h5, h6, h7⟩ := h x hx
  rw [h3]
  exact ⟨nk_pk h5 h6 h7, pk_depth r o⟩
theorem ent_val {G : Hp} {S : List (List Int)} {xs : List (NestedKey × Addr × V)} (h : ∀ x ∈ xs, Ent G S x) {r o : List Int} (hx : ∃ x ∈ xs, x.1 = pk r o) : valN xs (pk r o) = some (.bl (lead r o)) := by
  obtain ⟨v, hv⟩ := valN_some hx
  obtain ⟨x, m, e1, e2⟩ := valN_mem hv
  obtain ⟨t, u, r', o', h1, h2, h3, h4, h5, h6, h7⟩ := h x m
  obtain ⟨rfl, rfl⟩ := pk_inj (h3.symm.trans e1)
  rw [hv, ← e2, h4]
theorem ent_put {G : Hp} {S : List (List Int)} {xs : List (NestedKey × Addr × V)} (h : ∀ x ∈ xs, Ent G S x) {q t u : Addr} {r o : List Int} (hr : r ∈ S) (ho : o ∈ S) (eq : G q = some (.tup [.ref t, .ref u])) (et : G t = some (.tup (r.map V.int))) (eu : G u = some (.tup (o.map V.int))) :
    ∀ x ∈ putN xs (pk r o) q (.bl (lead r o)), Ent G S x := fun x hx => by
  rcases putN_mem hx with (hx | ⟨e1, e2, y, hy, e3, e4⟩) | rfl
  · exact h x hx
  · obtain ⟨t', u', r', o', h1, h2, h3, h4, h5, h6, h7⟩ := h y hy
    obtain ⟨rfl, rfl⟩ := pk_inj (h3.symm.trans e3)
    exact ⟨t', u', r', o', h1, h2, e1, e2, by rw [← e4]; exact h5, h6, h7⟩
  · exact ⟨t, u, r, o, hr, ho, rfl, rfl, eq, et, eu⟩
theorem tup_nil (s : Str) (l : List Str) : PyData.eqv (.tuple (.str s :: l.map PyData.str)) (.tuple []) = false := by rw [PyData.eqv, PyData.eqvAll]
theorem eq_nil (l : List Str) : PyData.eqv (.tuple (l.map PyData.str)) (.tuple []) = decide (l = []) := by
  cases l with
  | nil => rw [List.map_nil, PyData.eqv, PyData.eqvAll]; rfl
  | cons s l => rw [List.map_cons, tup_nil]; rfl
section
variable {P : Program} {w : World} {K : PySem.W.Frag} {mg : Str → Option Value} {base : Heap}
def spRight : Sp := fun vs H Q _ => ∃ (b a : Addr) (r : List Int) (N : Nat), vs = [.ref b, .ref a] ∧ Box H b N ∧ N ≤ 300000 ∧ H a = some (.tup (r.map V.int)) ∧ (∀ n ∈ r, 0 ≤ n) ∧ r.length ≤ 12 ∧ 3 ≤ MG.cnt r ∧ r.sum < 2 ^ 110 ∧
  ∀ H', SX b H H' → Box H' b (N + 500) → Q (.bl true) H'
theorem ok_right {f fFu fCo fMo fO fHd fK fT : Addr} {fd fdFu fdCo fdMo fdO fdHd fdK fdT : FuncData} {k : Nat} (sys : SysD base) (F : Fun K "_law_right" "_law_right" sRight f fd)
    (FFu : Fun K "_law_further" "_law_further" sFurther fFu fdFu) (bFu : Binds K fdFu ["_law_box_here", "_law_row"] []) (gFu : mg "_law_further" = some (.ref fFu)) (GFu : FnOk P w K mg base CX0 (k + 3) fFu fdFu ["_law_box_here", "_law_row"] spFurther)
    (FCo : Fun K "comes" "comes" sComes fCo fdCo) (bCo : Binds K fdCo ["row", "other"] []) (gCo : mg "comes" = some (.ref fCo)) (GCo : FnOk P w K mg base CX0 (k + 7) fCo fdCo ["row", "other"] spComes)
    (FMo : Fun K "_law_moved" "_law_moved" sMoved fMo fdMo) (bMo : Binds K fdMo ["_law_box_here", "_law_row"] []) (gMo : mg "_law_moved" = some (.ref fMo)) (GMo : FnOk P w K mg base CX0 (k + 3) fMo fdMo ["_law_box_here", "_law_row"] spMoved)
    (FT : Fun K "_law_take" "_law_take" sTake fT fdT) (bT : Binds K fdT ["_law_box_here", "_law_many"] []) (gT : mg "_law_take" = some (.ref fT))
    (FO : Fun K "_law_of" "_law_of" sOf fO fdO) (bO : Binds K fdO ["_law_box_here", "_law_some"] []) (gO : mg "_law_of" = some (.ref fO))
    (FHd : Fun K "_law_had" "_law_had" sHad fHd fdHd) (bHd : Binds K fdHd ["_law_row"] []) (gHd : mg "_law_had" = some (.ref fHd)) (GHd : FnOk P w K mg base CX0 (k + 1) fHd fdHd ["_law_row"] spHad)
    (FK : Fun K "broken" "broken" sBroken fK fdK) (bK : Binds K fdK ["row", "other"] []) (gK : mg "broken" = some (.ref fK)) (GK : FnOk P w K mg base CX0 (k + 6) fK fdK ["row", "other"] spBroken)
    (m_len : mg "len" = none) (m_range : mg "range" = none) (m_all : mg "all" = none) (m_repr : mg "repr" = none) : FnG P w K mg base (k + 8) f fd ["_law_box_here", "_law_row"] spRight := by
  have GO : FnOk P w K mg base CX0 (k + 2) fO fdO ["_law_box_here", "_law_some"] spOf := ok_of FO FT bT gT m_len
  refine okG F scRight (fun vs H Q E h => ?_) (fun cdv A outer s H vs Q E gd hr h => ?_)
  · obtain ⟨b, a, r, N, rfl, _⟩ := h
    rfl
  · obtain ⟨b, a, r, N, rfl, hB, hN, ea, nr, l12, c3, sm, want⟩ := h
    have hr7 := hr
    have hr6 := hr.mono (show k + 6 ≤ k + 7 by omega)
    have hr3 := hr.mono (show k + 3 ≤ k + 7 by omega)
    have hr2 := hr.mono (show k + 2 ≤ k + 7 by omega)
    have hr1 := hr.mono (show k + 1 ≤ k + 7 by omega)
    have cr : ∀ {X : Cx}, X = (cxOf CX0 P w K mg base nRight "_law_right" (defScope sRight) f cdv A outer s H E).nox →
        CallR X (.builtin "repr") (fun xs H Q => ∃ x d, xs = [x] ∧ Dd H x d ∧ d.showable = true ∧ d.depth ≤ 60 ∧ d.shown.length ≤ sizeLine ∧ Q (.str d.shown) H) := by
      rintro X rfl
      exact call_repr gd (by have := hr.un; show (A.deeper _).units + 100 < cLine; omega) sys
    have R := cr rfl
    have bsh : ∀ b : Bool, (PyData.bool b).shown.length ≤ sizeLine := fun b => Nat.le_trans (Sh.bool b).2.2 (by rw [sizeLine_eq]; decide)
    refine ⟨_, pss_cons (ps_set (i := 2) scRight.nd rfl (.inr rfl) (pe_lst (pa_cons (pv 1) pa_nil)))
      (pss_cons (ps_for PassesOwn.never rfl (pi_range1 (by rfl) m_range (pa_cons pe_int pa_nil)) (pg_name (i := 3) scRight.nd rfl (.inl rfl)) (pss_one (ps_expr (pe_bm PySem.F.plainAttrs_list PySem.F.slot_list_append PySem.F.type_list_append mt_append (pv 2) (pa_cons (pe_call GFu hr3 (by rfl) gFu FFu.kp bFu .nil pass0 (pa_cons (pv 0) (pa_cons (pe_ix ix_list (pv 2) (pe_un un_neg pe_int) (fun _ _ => rfl)) pa_nil))) pa_nil)))))
      (pss_cons (ps_for PassesOwn.never rfl (pi_range1 (by rfl) m_range (pa_cons pe_int pa_nil)) (pg_name (i := 4) scRight.nd rfl (.inr rfl)) (pss_one (ps_if (pt_not (pt_val (pe_callB (cr_all rfl) (by rfl) m_all (by decide +kernel) (pa_cons (pe_lc (own := [("_law_ahead", 5)]) (g := gName 5) (tt := tYes) (te := (tOp (fun x y H Q => ∃ i j, x = .bl i ∧ y = .bl j ∧ Q (.bl (decide (i = j))) H) (tCall spComes [] E0 (tCons (tVar 5) (tCons (tOp (rIxL K) (tVar 2) (tVar 4)) tNil))) (tC (V.bl true)))) rfl scRight.nd (pi_list (pe_slice sl_list (pv 2) po_none (po_some (pe_op op_add (pv 4) pe_int)))) (blkOk_by (N := nRight) (sc := defScope sRight) (by decide +kernel)) (fun _ _ _ _ _ => pg_name (i := 5) scRight.nd rfl (Or.inl rfl)) (fun _ _ _ _ _ => pts_nil) (fun _ _ _ _ _ => pe_cmpR op_isBl (pe_call GCo hr7 (by rfl) gCo FCo.kp bCo .nil pass0 (pa_cons (pv 5) (pa_cons (pe_ix ix_list (pv 2) (pv 4) (fun _ _ => rfl)) pa_nil))) pe_bl (nomark _))) pa_nil)))) (pss_one (ps_ret pe_bl)) pss_nil)))
      (pss_cons (ps_set (i := 6) scRight.nd rfl (.inl rfl) (pe_op op_cat (pv 2) (pe_lc (own := [("_law_turn", 3)]) (g := gName 3) (tt := tYes) rfl scRight.nd (pi_range1 (by rfl) m_range (pa_cons pe_int pa_nil)) (blkOk_by (N := nRight) (sc := defScope sRight) (by decide +kernel)) (fun _ _ _ _ _ => pg_name (i := 3) scRight.nd rfl (Or.inl rfl)) (fun _ _ _ _ _ => pts_nil) (fun _ _ _ _ _ => pe_call GMo hr3 (by rfl) gMo FMo.kp bMo .nil pass0 (pa_cons (pv 0) (pa_cons (pe_call GO hr2 (by rfl) gO FO.kp bO .nil pass0 (pa_cons (pv 0) (pa_cons (pv 2) pa_nil))) pa_nil))))))
      (pss_cons (ps_setLc (i := 6) (own := [("_law_one", 7)]) (g := gName 7) (tt := (tTest (tOp (rI0 fun i j => V.bl (decide (j < i))) (tCB (fun xs H Q => ∃ p ys, xs = [.ref p] ∧ (SqL K H p ys ∨ SqT K H p ys) ∧ Q (.int ys.length) H) (tCons (tCall spHad [] E0 (tCons (tVar 7) tNil)) tNil)) (tC (V.int 2))))) rfl scRight.nd rfl rfl (sw_true rfl rfl rfl (by decide +kernel)) (pi_list (pv 6)) (blkOk_by (N := nRight) (sc := defScope sRight) (by decide +kernel)) (fun _ _ _ _ _ => pg_name (i := 7) scRight.nd rfl (Or.inl rfl)) (fun _ _ _ _ _ => pts_one (pt_cmpR op_gt (pe_callB call_len_seq (by rfl) m_len PySem.boot_len (pa_cons (pe_call GHd hr1 (by rfl) gHd FHd.kp bHd .nil pass0 (pa_cons (pv 7) pa_nil)) pa_nil)) pe_int (nomark _))) (fun _ _ _ _ _ => pv 7))
      (pss_cons (ps_set (i := 8) scRight.nd rfl (.inl rfl) (pe_newN (P := P) (w := w) rfl rfl))
      (pss_cons (ps_for PassesOwn.never rfl (pi_list (pv 6)) (pg_name (i := 7) scRight.nd rfl (.inl rfl)) (pss_one (ps_for PassesOwn.never rfl (pi_list (pv 6)) (pg_name (i := 9) scRight.nd rfl (.inl rfl)) (pss_cons (ps_asg (pe_call GCo hr7 (by rfl) gCo FCo.kp bCo .nil pass0 (pa_cons (pv 7) (pa_cons (pv 9) pa_nil))) (pg_sub (pv 8) (pe_tup (pa_cons (pv 7) (pa_cons (pv 9) pa_nil))) (set_n (P := P) (w := w) rfl rfl (Nat.lt_of_le_of_lt (Nat.le_trans (Nat.add_le_add_left (show 9 ≤ 16 * (k + 7) + 200 by omega) _) (Nat.le_of_eq (Nat.add_assoc _ _ _).symm)) hr.un))))
      (pss_one (ps_if (PW.pt (pw_or (pt_cmpR op_ne (pe_callB R (by rfl) m_repr (by decide +kernel) (pa_cons (pe_nget (P := P) (w := w) rfl rfl (Nat.lt_of_le_of_lt (Nat.le_trans (Nat.add_le_add_left (show 9 ≤ 16 * (k + 7) + 200 by omega) _) (Nat.le_of_eq (Nat.add_assoc _ _ _).symm)) hr.un) (pv 8) (pe_tup (pa_cons (pv 7) (pa_cons (pv 9) pa_nil))) (fun _ _ => rfl)) pa_nil)) (pe_callB R (by rfl) m_repr (by decide +kernel) (pa_cons (pe_cmpR (op_eqD hr.units) (pe_call GK hr6 (by rfl) gK FK.kp bK .nil pass0 (pa_cons (pv 7) (pa_cons (pv 9) pa_nil))) (pe_tup pa_nil) (nomark _)) pa_nil)) (nomark _)) (pw_or1 (PW.pt (pw_and (pt_cmpR (op_eqD hr.units) (pv 7) (pv 9) (nomark _)) (pw_and1 (pt_not (pt_val (pe_nget (P := P) (w := w) rfl rfl (Nat.lt_of_le_of_lt (Nat.le_trans (Nat.add_le_add_left (show 9 ≤ 16 * (k + 7) + 200 by omega) _) (Nat.le_of_eq (Nat.add_assoc _ _ _).symm)) hr.un) (pv 8) (pe_tup (pa_cons (pv 7) (pa_cons (pv 9) pa_nil))) (fun _ _ => rfl)))))))))) (pss_one (ps_ret pe_bl)) pss_nil))))))
      (pss_cons (ps_lock (ps_for PassesOwn.never rfl (pi_n (P := P) (w := w) rfl rfl (pv 8)) (pg_tup rfl (pgs_cons (pg_name (i := 7) scRight.nd rfl (.inl rfl)) (pgs_cons (pg_name (i := 9) scRight.nd rfl (.inl rfl)) pgs_nil))) (pss_one (ps_for PassesOwn.never rfl (pi_list (pv 6)) (pg_name (i := 10) scRight.nd rfl (.inl rfl)) (pss_one (ps_if (PW.pt (pw_and (pt_val (pe_nget (P := P) (w := w) rfl rfl (Nat.lt_of_le_of_lt (Nat.le_trans (Nat.add_le_add_left (show 9 ≤ 16 * (k + 7) + 200 by omega) _) (Nat.le_of_eq (Nat.add_assoc _ _ _).symm)) hr.un) (pv 8) (pe_tup (pa_cons (pv 7) (pa_cons (pv 9) pa_nil))) (fun _ _ => rfl))) (pw_and (pt_val (pe_nget (P := P) (w := w) rfl rfl (Nat.lt_of_le_of_lt (Nat.le_trans (Nat.add_le_add_left (show 9 ≤ 16 * (k + 7) + 200 by omega) _) (Nat.le_of_eq (Nat.add_assoc _ _ _).symm)) hr.un) (pv 8) (pe_tup (pa_cons (pv 9) (pa_cons (pv 10) pa_nil))) (fun _ _ => rfl))) (pw_and1 (pt_not (pt_val (pe_nget (P := P) (w := w) rfl rfl (Nat.lt_of_le_of_lt (Nat.le_trans (Nat.add_le_add_left (show 9 ≤ 16 * (k + 7) + 200 by omega) _) (Nat.le_of_eq (Nat.add_assoc _ _ _).symm)) hr.un) (pv 8) (pe_tup (pa_cons (pv 7) (pa_cons (pv 10) pa_nil))) (fun _ _ => rfl)))))))) (pss_one (ps_ret pe_bl)) pss_nil))))))
      (pss_one (ps_ret pe_bl))))))))), ?_⟩
    have s0 : 0 < r.sum := by
      have h1 : 0 < MG.cnt r := by omega
      unfold MG.cnt at h1
      obtain ⟨x, hx⟩ := List.exists_mem_of_length_pos h1
      obtain ⟨x1, x2⟩ := List.mem_filter.mp hx
      have := mem_le_sumG nr x x1
      have := of_decide_eq_true x2
      omega
    have e250 : (2 : Int) ^ 110 < 2 ^ 250 := by decide
    have rowE : ∀ {G : Hp} {t : Addr} {m : List Int}, G t = some (.tup (m.map V.int)) → OkR r m → Row G t m := fun {G t m} e ok => ⟨e, fun n hn => ⟨ok.1 n hn, by
      have := mem_le_sumG ok.1 n hn
      have := ok.2.2
      omega⟩, by have := ok.2.1; omega, pos_of ok.1 (by have := ok.2.2; omega)⟩
    have okRe : ∀ {m : List Int}, Re r m → OkR r m := fun re => by
      obtain ⟨h1, h2, h3⟩ := re.keeps nr
      exact ⟨h3, h1, h2⟩
    have nab := box_tup hB ea
    refine ⟨_, rfl, by show 1 ≤ sizeLine; decide, fun L nL => ?_⟩
    have s1 : Same H (upd H L (.lst [.ref a])) := same_upd nL
    have e1 : upd H L (.lst [.ref a]) L = some (.lst ([a].map V.ref)) := upd_same
    have Lb : L ≠ b := by obtain ⟨_, y⟩ := hB.get; exact (ne_of_none y nL).symm
    have hB1 : Box (upd H L (.lst [.ref a])) b N := hB.new nL
    have ea1 := s1 _ _ ea
    generalize upd H L (HO.lst [.ref a]) = H1 at s1 e1 hB1 ea1 ⊢
    -- the line
    refine ⟨3, rfl, by decide, by decide, ?_⟩
    refine for_range (lo := 0) (n := 3) (fun i σ G => ∃ (ts : List Addr) (R : List (List Int)) (y3 y4 y5 y6 y7 y8 y9 y10 : Option V), σ = [some (.ref b), some (.ref a), some (.ref L), y3, y4, y5, y6, y7, y8, y9, y10] ∧ SX b H G ∧ Box G b (N + 40 * i) ∧ G L = some (.lst (ts.map V.ref)) ∧ RwA G ts R ∧ R.length = i + 1 ∧ R.Pairwise Re ∧ (∀ x ∈ R, Re r x ∧ 3 ≤ MG.cnt x))
      ⟨[a], [r], _, _, _, _, _, _, _, _, rfl, .of_same s1, hB1, e1, ⟨rfl, fun i t m h1 h2 => by
        match i, h1, h2 with
        | 0, h1, h2 => rw [← Option.some.inj h1, ← Option.some.inj h2]; exact ea1
        | n + 1, h1, _ => exact absurd h1 (by simp)⟩, rfl, List.pairwise_singleton _ _, fun x hx => by rw [List.mem_singleton.mp hx]; exact ⟨.refl, c3⟩⟩ ?_ ?_
    · rintro i σ G hi ⟨ts, R, y3, y4, y5, y6, y7, y8, y9, y10, rfl, sx, hBG, eL, rw_, lR, pw, hR⟩
      have hi3 : i < 3 := hi
      have lt : ts.length = i + 1 := by rw [rw_.1, lR]
      obtain ⟨t, ht⟩ : ∃ t, ts[i]? = some t := ⟨ts[i], List.getElem?_eq_getElem (by omega)⟩
      obtain ⟨m, hm⟩ : ∃ m, R[i]? = some m := ⟨R[i], List.getElem?_eq_getElem (by omega)⟩
      have em := rw_.2 i t m ht hm
      obtain ⟨rem, cm⟩ := hR m (List.mem_of_getElem? hm)
      obtain ⟨nm, lm, smm⟩ := okRe rem
      refine ⟨_, rfl, .inl ⟨rfl, _, SqL.of eL⟩, _, rfl, _, rfl, 1, rfl, L, _, -1, .ref t, rfl, rfl, SqL.of eL, atI_neg1 (by rw [List.length_map]; omega) (by rw [List.length_map, lt, List.getElem?_map]; show (ts[i + 1 - 1]?).map V.ref = _; rw [Nat.add_sub_cancel, ht]; rfl), b, t, m, _, rfl, hBG, by omega, em, nm, by omega, cm, by omega, fun p G1 m1 sx1 B1 ep re1 c1 => ?_⟩
      have eL1 := sx1 _ _ Lb eL
      refine ⟨L, _, _, rfl, rfl, eL1, by rw [List.length_map, sizeLine_eq]; omega, ?_⟩
      have pL : p ≠ L := fun y => by rw [y, eL1] at ep; cases ep
      have kt : ∀ c xs, G c = some (.tup xs) → upd G1 L (.lst (ts.map V.ref ++ [.ref p])) c = some (.tup xs) := fun c xs hc => by
        have cL : c ≠ L := fun y => by rw [y, eL] at hc; cases hc
        rw [upd_ne cL]
        exact sx1 _ _ (box_tup hBG hc) hc
      refine ⟨ts ++ [p], R ++ [m1], _, _, _, _, _, _, _, _, rfl, fun c o cb hc => ?_, (B1.le (by omega)).at (upd_ne Lb.symm), by rw [upd_same, List.map_append]; rfl, (rw_.mono kt).snoc (by rw [upd_ne pL]; exact ep), by rw [List.length_append, lR]; rfl, ?_, fun x hx => ?_⟩
      · rw [upd_ne (ne_of_none hc nL)]
        exact (sx.trans sx1) c o cb hc
      · refine List.pairwise_append.mpr ⟨pw, List.pairwise_singleton _ _, fun x hx y hy => ?_⟩
        rw [List.mem_singleton.mp hy]
        -- x comes ahead of m or is m
        have : Re x m := by
          obtain ⟨c, hc, rfl⟩ := List.mem_iff_getElem.mp hx
          by_cases e : c = i
          · subst e
            rw [List.getElem?_eq_getElem hc] at hm
            rw [Option.some.inj hm]; exact .refl
          · have := List.pairwise_iff_getElem.mp pw c i hc (by omega) (by omega)
            rw [List.getElem?_eq_getElem (by omega)] at hm
            rw [← Option.some.inj hm]; exact this
        exact this.trans re1
      · rcases List.mem_append.mp hx with hx | hx
        · exact hR x hx
        · rw [List.mem_singleton.mp hx]
          exact ⟨rem.trans re1, c1⟩
    rintro σ G ⟨ts, R, y3, y4, y5, y6, y7, y8, y9, y10, rfl, sx, hBG, eL, rw_, lR, pw, hR⟩
    have lt : ts.length = 4 := by rw [rw_.1, lR]
    have lts : ∀ i, i < 4 → ∃ t m, ts[i]? = some t ∧ R[i]? = some m ∧ G t = some (.tup (m.map V.int)) ∧ Re r m ∧ 3 ≤ MG.cnt m := fun i hi => by
      refine ⟨ts[i], R[i], List.getElem?_eq_getElem (by omega), List.getElem?_eq_getElem (by omega), rw_.2 i _ _ (List.getElem?_eq_getElem (by omega)) (List.getElem?_eq_getElem (by omega)), hR _ (List.getElem_mem (by omega))⟩
    -- each comes of all ahead
    refine ⟨4, rfl, by decide, by decide, ?_⟩
    refine for_range (lo := 0) (n := 4) (fun _ σ G' => ∃ (y3 y4 y5 y6 y7 y8 y9 y10 : Option V), σ = [some (.ref b), some (.ref a), some (.ref L), y3, y4, y5, y6, y7, y8, y9, y10] ∧ Same G G') ⟨_, _, _, _, _, _, _, _, rfl, .refl G⟩ ?_ ?_
    · rintro j σ G1 hj ⟨y3, y4, y5, y6, y7, y8, y9, y10, rfl, sG⟩
      have hj4 : j < 4 := hj
      obtain ⟨tj, mj, htj, hmj, ej, rej, cj⟩ := lts j hj4
      have eL1 := sG _ _ eL
      refine ⟨_, rfl, _, rfl, _, _, rfl, rfl, _, rfl, L, _, rfl, SqL.of eL1, fun q nq => ?_⟩
      have hcut : cutV (ts.map V.ref) none (some ((0 : Int) + (j : Int) + 1)) = (ts.take (j + 1)).map V.ref := by
        rw [show (0 : Int) + (j : Int) + 1 = ((j + 1 : Nat) : Int) by omega, cut_toV (by rw [List.length_map]; omega), List.map_take]
      dsimp only at nq ⊢
      rw [hcut]
      have s2 : Same G1 (upd G1 q (.lst ((ts.take (j + 1)).map V.ref))) := same_upd nq
      have e2 : upd G1 q (.lst ((ts.take (j + 1)).map V.ref)) q = some (.lst ((ts.take (j + 1)).map V.ref)) := upd_same
      generalize upd G1 q (HO.lst ((ts.take (j + 1)).map V.ref)) = G2 at s2 e2 ⊢
      have sG2 := sG.trans s2
      refine ⟨q, rfl, ⟨_, SqL.of e2⟩, fun D nD => ?_⟩
      refine lc_list (K := K) (a := q) (xs := (ts.take (j + 1)).map V.ref) (fun i G' => Same G2 G' ∧ G' D = some (.lst ((List.replicate i true).map V.bl))) ⟨same_upd nD, upd_same⟩ ?_ ?_ ?_
      · rintro i G' _ ⟨sg, _⟩
        exact SqL.of (sg _ _ e2)
      · rintro i x G' hx ⟨sg, eD⟩
        rw [List.getElem?_map, List.getElem?_take] at hx
        obtain ⟨u, hu, rfl⟩ := Option.map_eq_some_iff.mp hx
        have hi : i < j + 1 := Classical.byContradiction fun z => by rw [if_neg z] at hu; cases hu
        rw [if_pos hi] at hu
        obtain ⟨ti, mi, hti, hmi, ei, rei, ci⟩ := lts i (by omega)
        have hu' : u = ti := Option.some.inj (hu.symm.trans hti)
        subst hu'
        have sg' := sG2.trans sg
        have re2 : Re mi mj := by
          by_cases e : i = j
          · subst e
            rw [Option.some.inj (hmi.symm.trans hmj)]; exact .refl
          · have h1 := List.getElem?_eq_some_iff.mp hmi
            have h2 := List.getElem?_eq_some_iff.mp hmj
            have := List.pairwise_iff_getElem.mp pw i j h1.1 h2.1 (by omega)
            rw [h1.2, h2.2] at this
            exact this
        have h3 : 3 ≤ (hold mi mi.length).length := by rw [← cnt_hold]; exact ci
        have lead1 : brkT mi mj = [] := RD.re_freeT (okRe rei).1 h3 re2
        refine ⟨rfl, ?_⟩
        refine ⟨_, rfl, _, rfl, _, rfl, L, _, (0 : Int) + (j : Int), .ref tj, rfl, rfl, SqL.of (sg' _ _ eL), by rw [Int.zero_add]; exact atI_nat (by rw [List.getElem?_map, htj]; rfl), u, tj, mi, mj, rfl, rowE (sg' _ _ ei) (okRe rei), rowE (sg' _ _ ej) (okRe rej), .inr h3, fun G4 s4 => ⟨_, _, rfl, rfl, ?_⟩⟩
        rw [lead1]
        refine ⟨_, s4 _ _ eD, by rw [List.length_map, List.length_replicate]; exact small1000 (by omega), fun c o hc => ?_, by rw [upd_same, List.replicate_succ', List.map_append]; rfl⟩
        rw [upd_ne (ne_of_none hc nD)]
        exact s4 _ _ (sg _ _ hc)
      rintro G5 ⟨s5, eD⟩
      refine ⟨D, _, rfl, SqL.of eD, ?_⟩
      have hall : ∀ n : Nat, (List.replicate n true).all id = true := fun n => List.all_eq_true.mpr fun z hz => by rw [List.eq_of_mem_replicate hz]; rfl
      rw [hall]
      exact ⟨_, rfl, iteF ⟨_, _, _, _, _, _, _, _, rfl, sG2.trans s5⟩⟩
    rintro σ G1 ⟨y3, y4, y5, y6, y7, y8, y9, y10, rfl, sG1⟩
    have sx1 : SX b H G1 := sx.trans (.of_same sG1)
    have hB2 : Box G1 b (N + 120) := by
      obtain ⟨_, h⟩ := hBG.get
      exact hBG.at (by rw [h]; exact sG1 _ _ h)
    have eL1 := sG1 _ _ eL
    have rw1 := rw_.mono fun c xs h => sG1 c _ h
    -- rows beside it
    have Lb1 := Lb
    have okT : ∀ x ∈ R, OkR r x ∧ 3 ≤ MG.cnt x := fun x hx => ⟨okRe (hR x hx).1, (hR x hx).2⟩
    refine ⟨_, rfl, 4, rfl, by decide, by decide, fun D nD => ?_⟩
    have Db : D ≠ b := by obtain ⟨_, y⟩ := hB2.get; exact (ne_of_none y nD).symm
    refine lc_range (lo := 0) (n := 4) (fun i G' => SX b G1 G' ∧ Box G' b (N + 120 + 70 * i) ∧ ∃ (us : List Addr) (U : List (List Int)), G' D = some (.lst (us.map V.ref)) ∧ RwA G' us U ∧ U.length = i ∧ ∀ x ∈ U, OkR r x) ⟨.of_same (same_upd nD), hB2.new nD, [], [], upd_same, ⟨rfl, fun i t m h _ => by simp at h⟩, rfl, fun x hx => absurd hx List.not_mem_nil⟩ ?_ ?_
    · rintro i G' hi ⟨sg, hBg, us, U, eD, ru, lU, okU⟩
      have hi4 : i < 4 := hi
      have eLg := sg _ _ Lb eL1
      refine ⟨rfl, _, rfl, _, rfl, _, rfl, b, L, _, _, rfl, hBg, by omega, eLg, Lb.symm, by rw [List.length_map]; omega, by rw [List.length_map]; omega, fun x G2 hx B2 k2 => ?_⟩
      obtain ⟨t, ht, rfl⟩ := List.mem_map.mp hx
      obtain ⟨m, hm, em⟩ := rw1.get ht
      have em2 : G2 t = some (.tup (m.map V.int)) := by rw [k2 _ (box_tup hB2 em)]; exact sg _ _ (box_tup hB2 em) em
      obtain ⟨okm, cm⟩ := okT m hm
      refine ⟨b, t, m, _, rfl, B2, by omega, rowE em2 okm, by have := okm.2.1; omega, cm, by have := okm.2.2; omega, fun p G3 o sx3 B3 ep no lo so => ?_⟩
      have eD3 : G3 D = some (.lst (us.map V.ref)) := sx3 _ _ Db (by rw [k2 _ Db]; exact eD)
      have pD : p ≠ D := fun y => by rw [y, eD3] at ep; cases ep
      have kt : ∀ c xs, G' c = some (.tup xs) → upd G3 D (.lst (us.map V.ref ++ [.ref p])) c = some (.tup xs) := fun c xs hc => by
        have cD : c ≠ D := fun y => by rw [y, eD] at hc; cases hc
        have cb := box_tup hBg hc
        rw [upd_ne cD]
        exact sx3 _ _ cb (by rw [k2 _ cb]; exact hc)
      refine ⟨_, eD3, by rw [List.length_map, ru.1, lU]; exact small1000 (by omega), fun c o' cb hc => ?_, (B3.le (by omega)).at (upd_ne Db.symm), us ++ [p], U ++ [o], by rw [upd_same, List.map_append]; rfl, (ru.mono kt).snoc (by rw [upd_ne pD]; exact ep), by rw [List.length_append, lU]; rfl, fun x hx => ?_⟩
      · rw [upd_ne (ne_of_none hc nD)]
        exact sx3 _ _ cb (by rw [k2 _ cb]; exact sg _ _ cb hc)
      · rcases List.mem_append.mp hx with hx | hx
        · exact okU x hx
        · rw [List.mem_singleton.mp hx]
          exact ⟨no, by rw [lo, okm.2.1], by rw [so, okm.2.2]⟩
    rintro G2 ⟨sg2, hBg2, us, U, eD2, ru, lU, okU⟩
    have lus : us.length = 4 := by rw [ru.1, lU]
    have eLg := sg2 _ _ Lb eL1
    refine ⟨L, D, _, _, rfl, rfl, eLg, eD2, by rw [List.length_map, List.length_map, sizeLine_eq]; omega, fun q nq => ?_⟩
    rw [← List.map_append]
    have s3 : Same G2 (upd G2 q (.lst ((ts ++ us).map V.ref))) := same_upd nq
    have e3 : upd G2 q (.lst ((ts ++ us).map V.ref)) q = some (.lst ((ts ++ us).map V.ref)) := upd_same
    have hB3 : Box (upd G2 q (.lst ((ts ++ us).map V.ref))) b (N + 400) := by
      have := hBg2.new (o := .lst ((ts ++ us).map V.ref)) nq
      exact this.le (by omega)
    generalize upd G2 q (HO.lst ((ts ++ us).map V.ref)) = G3 at s3 e3 hB3 ⊢
    have sx3 : SX b H G3 := sx1.trans (sg2.trans (.of_same s3))
    have rw3 : RwA G3 (ts ++ us) (R ++ U) := ((rw1.mono fun c xs h => sg2 _ _ (box_tup hB2 h) h).app ru).mono fun c xs h => s3 c _ h
    have ok3 : ∀ x ∈ R ++ U, OkR r x := fun x hx => (List.mem_append.mp hx).elim (fun h => (okT x h).1) (okU x)
    have l8 : (ts ++ us).length = 8 := by rw [List.length_append]; omega
    generalize ts ++ us = ss at e3 rw3 l8
    generalize R ++ U = SR at rw3 ok3
    -- those who have three
    refine ⟨_, rfl, q, rfl, ⟨_, SqL.of e3⟩, fun D3 nD3 => ?_⟩
    refine lc_list (K := K) (a := q) (xs := ss.map V.ref) (fun i G' => Same G3 G' ∧ ∃ (vs : List Addr) (W : List (List Int)), G' D3 = some (.lst (vs.map V.ref)) ∧ RwA G' vs W ∧ vs.length ≤ i ∧ ∀ x ∈ W, OkR r x ∧ 3 ≤ MG.cnt x) ⟨same_upd nD3, [], [], upd_same, ⟨rfl, fun i t m h _ => by simp at h⟩, Nat.le_refl _, fun x hx => absurd hx List.not_mem_nil⟩ ?_ ?_ ?_
    · rintro i G' _ ⟨sg, _⟩
      exact SqL.of (sg _ _ e3)
    · rintro i x G' hx ⟨sg, vs, W, eD, rv, lv, okW⟩
      rw [List.getElem?_map] at hx
      obtain ⟨t, ht, rfl⟩ := Option.map_eq_some_iff.mp hx
      obtain ⟨m, hm, em⟩ := rw3.get (List.mem_of_getElem? ht)
      have okm := ok3 m hm
      have hi8 : i < 8 := by have := (List.getElem?_eq_some_iff.mp ht).1; omega
      refine ⟨rfl, _, rfl, t, m, rfl, sg _ _ em, by have := okm.2.1; omega, fun G4 ph s4 eh => ⟨ph, _, rfl, .inr (SqT.of eh), _, _, rfl, rfl, _, rfl, ?_⟩⟩
      rw [List.length_map]
      have eD4 := s4 _ _ eD
      by_cases c2 : (2 : Int) < ((hold m m.length).length : Nat)
      · rw [decide_eq_true c2]
        have tD : t ≠ D3 := fun y => by rw [y] at em; have := sg _ _ em; rw [this] at eD; cases eD
        have kt : ∀ c xs, G' c = some (.tup xs) → upd G4 D3 (.lst (vs.map V.ref ++ [.ref t])) c = some (.tup xs) := fun c xs hc => by
          rw [upd_ne (fun y => by rw [y, eD] at hc; cases hc)]
          exact s4 _ _ hc
        refine iteT ⟨_, rfl, _, eD4, by rw [List.length_map]; exact small1000 (by omega), fun c o hc => ?_, vs ++ [t], W ++ [m], by rw [upd_same, List.map_append]; rfl, (rv.mono kt).snoc (kt _ _ (sg _ _ em)), by rw [List.length_append]; exact Nat.succ_le_succ lv, fun x hx => ?_⟩
        · rw [upd_ne (ne_of_none hc nD3)]
          exact s4 _ _ (sg _ _ hc)
        · rcases List.mem_append.mp hx with hx | hx
          · exact okW x hx
          · rw [List.mem_singleton.mp hx]
            exact ⟨okm, by rw [cnt_hold]; omega⟩
      · rw [decide_eq_false c2]
        exact iteF ⟨sg.trans s4, vs, W, eD4, rv.mono fun c xs h => s4 _ _ h, by omega, okW⟩
    rintro G4 ⟨sg4, vs, W, eD4, rv, lv, okW⟩
    rw [List.length_map] at lv
    have lv8 : vs.length ≤ 8 := by omega
    have sx4 : SX b H G4 := sx3.trans (.of_same sg4)
    have hB4 : Box G4 b (N + 400) := by
      obtain ⟨_, h⟩ := hB3.get
      exact hB3.at (by rw [h]; exact sg4 _ _ h)
    clear hR pw okT lts okU
    refine fun dd nd => ?_
    have h5 : Same G4 (upd G4 dd (DN P w dd [])) := same_upd nd
    have e5 : upd G4 dd (DN P w dd []) dd = some (DN P w dd []) := upd_same
    have eD5 := h5 _ _ eD4
    have rv5 := rv.mono fun c xs h => h5 c _ h
    have D3d : D3 ≠ dd := fun y => by rw [y, nd] at eD4; cases eD4
    have bd : b ≠ dd := fun y => by obtain ⟨_, h⟩ := hB4.get; rw [y, nd] at h; cases h
    have hB5 : Box (upd G4 dd (DN P w dd [])) b (N + 400) := hB4.new nd
    generalize upd G4 dd (DN P w dd []) = G5 at h5 e5 eD5 rv5 hB5 ⊢
    let KD : Hp → Prop := fun G => ∀ z o, z ≠ dd → G5 z = some o → G z = some o
    let Cov : Nat → Nat → List (NestedKey × Addr × V) → Prop := fun n m xs => ∀ (i j : Nat) (r o : List Int), W[i]? = some r → W[j]? = some o → (i < n ∨ i = n ∧ j < m) → ∃ x ∈ xs, x.1 = pk r o
    let St5 : Hp → List (NestedKey × Addr × V) → Prop := fun G xs => KD G ∧ G dd = some (DN P w dd xs) ∧ (∀ x ∈ xs, Ent G W x)
    have tupD : ∀ {G : Hp} {z : Addr} {xs : List V}, KD G → G5 z = some (.tup xs) → G z = some (.tup xs) := fun kd h => kd _ _ (fun y => by rw [y, e5] at h; cases h) h
    refine ⟨_, rfl, D3, rfl, ⟨_, SqL.of eD5⟩, ?_⟩
    refine for_list (K := K) (a := D3) (xs := vs.map V.ref) (fun i σ G => ∃ (xs : List (NestedKey × Addr × V)) (y3 y4 y5 y7 y9 y10 : Option V), σ = [some (.ref b), some (.ref a), some (.ref L), y3, y4, y5, some (.ref D3), y7, some (.ref dd), y9, y10] ∧ St5 G xs ∧ xs.length ≤ 8 * i ∧ Cov i 0 xs)
      ⟨[], _, _, _, _, _, _, rfl, ⟨fun z o _ h => h, e5, fun x hx => absurd hx List.not_mem_nil⟩, Nat.zero_le _, fun i j r o _ _ h => by omega⟩ ?_ ?_ ?_
    · rintro i σ G _ ⟨xs, y3, y4, y5, y7, y9, y10, rfl, ⟨kd, _, _⟩, _⟩
      exact SqL.of (kd _ _ D3d eD5)
    · rintro i x σ G hx ⟨xs, y3, y4, y5, y7, y9, y10, rfl, st, lx, cov⟩
      rw [List.getElem?_map] at hx
      obtain ⟨t, ht, rfl⟩ := Option.map_eq_some_iff.mp hx
      have hi8 : i < vs.length := (List.getElem?_eq_some_iff.mp ht).1
      obtain ⟨m, hm⟩ : ∃ m, W[i]? = some m := ⟨W[i]'(by rw [← rv5.1]; exact hi8), List.getElem?_eq_getElem _⟩
      have em := rv5.2 i t m ht hm
      obtain ⟨okm, cm⟩ := okW m (List.mem_of_getElem? hm)
      have h3m : 3 ≤ (hold m m.length).length := by rw [← cnt_hold]; exact cm
      refine ⟨_, rfl, D3, rfl, ⟨_, SqL.of (st.1 _ _ D3d eD5)⟩, ?_⟩
      refine for_list (K := K) (a := D3) (xs := vs.map V.ref) (fun j σ G => ∃ (xs : List (NestedKey × Addr × V)) (y9 : Option V), σ = [some (.ref b), some (.ref a), some (.ref L), y3, y4, y5, some (.ref D3), some (.ref t), some (.ref dd), y9, y10] ∧ St5 G xs ∧ xs.length ≤ 8 * i + j ∧ Cov i j xs) ⟨xs, _, rfl, st, lx, cov⟩ ?_ ?_ ?_
      · rintro j σ G _ ⟨xs, y9, rfl, ⟨kd, _, _⟩, _⟩
        exact SqL.of (kd _ _ D3d eD5)
      · rintro j x σ G hx ⟨xs, y9, rfl, ⟨kd, edd, ents⟩, lx, cov⟩
        rw [List.getElem?_map] at hx
        obtain ⟨u, hu, rfl⟩ := Option.map_eq_some_iff.mp hx
        have hj8 : j < vs.length := (List.getElem?_eq_some_iff.mp hu).1
        obtain ⟨o, ho⟩ : ∃ o, W[j]? = some o := ⟨W[j]'(by rw [← rv5.1]; exact hj8), List.getElem?_eq_getElem _⟩
        have eo := rv5.2 j u o hu ho
        obtain ⟨oko, co⟩ := okW o (List.mem_of_getElem? ho)
        have emG := tupD kd em
        have eoG := tupD kd eo
        refine ⟨_, rfl, _, rfl, t, u, m, o, rfl, rowE emG okm, rowE eoG oko, .inr h3m, fun G6 s6 => ⟨_, rfl, _, rfl, _, rfl, by show 2 ≤ sizeLine; decide, fun kq nkq => ?_⟩⟩
        have s7 : Same G (upd G6 kq (.tup [.ref t, .ref u])) := s6.trans (same_upd nkq)
        have e7 : upd G6 kq (.tup [.ref t, .ref u]) kq = some (.tup [.ref t, .ref u]) := upd_same
        generalize upd G6 kq (HO.tup [.ref t, .ref u]) = G7 at s7 e7 ⊢
        have ents7 := ent_mono ents fun c xs h => s7 c _ h
        have nk7 : NKey G7 (pk m o) (.ref kq) := nk_pk e7 (s7 _ _ emG) (s7 _ _ eoG)
        refine ⟨dd, xs, pk m o, kq, rfl, rfl, s7 _ _ edd, ent_kn ents7, nk7, pk_depth m o, by rw [sizeLine_eq]; omega, ?_⟩
        have e8 : upd G7 dd (DN P w dd (putN xs (pk m o) kq (.bl (decide (brkT m o = []))))) dd = some (DN P w dd (putN xs (pk m o) kq (.bl (lead m o)))) := upd_same
        have k8 : ∀ z, z ≠ dd → upd G7 dd (DN P w dd (putN xs (pk m o) kq (.bl (decide (brkT m o = []))))) z = G7 z := fun z hz => upd_ne hz
        generalize upd G7 dd (DN P w dd (putN xs (pk m o) kq (.bl (decide (brkT m o = []))))) = G8 at e8 k8 ⊢
        have dnT : ∀ {c : Addr} {ys : List V}, G7 c = some (.tup ys) → c ≠ dd := fun h y => by
          have := s7 _ _ edd
          rw [← y, h] at this
          cases this
        have t8 : ∀ c ys, G7 c = some (.tup ys) → G8 c = some (.tup ys) := fun c ys h => by rw [k8 c (dnT h)]; exact h
        have ents8 : ∀ x ∈ putN xs (pk m o) kq (.bl (lead m o)), Ent G8 W x := ent_put (ent_mono ents7 t8) (List.mem_of_getElem? hm) (List.mem_of_getElem? ho) (t8 _ _ e7) (t8 _ _ (s7 _ _ emG)) (t8 _ _ (s7 _ _ eoG))
        have kd8 : KD G8 := fun z v hz h => by rw [k8 z hz]; exact s7 _ _ (kd z v hz h)
        have lx8 : (putN xs (pk m o) kq (.bl (lead m o))).length ≤ 8 * i + (j + 1) := by have := putN_len xs (pk m o) kq (.bl (lead m o)); omega
        have cov8 : Cov i (j + 1) (putN xs (pk m o) kq (.bl (lead m o))) := fun i' j' r' o' h1 h2 h => by
          by_cases e : i' = i ∧ j' = j
          · obtain ⟨rfl, rfl⟩ := e
            rw [← Option.some.inj (hm.symm.trans h1), ← Option.some.inj (ho.symm.trans h2)]
            exact putN_has
          · exact putN_keep (cov i' j' r' o' h1 h2 (by omega))
        have hval : valN (putN xs (pk m o) kq (.bl (lead m o))) (pk m o) = some (.bl (lead m o)) := ent_val ents8 putN_has
        generalize putN xs (pk m o) kq (.bl (lead m o)) = xs8 at e8 ents8 lx8 cov8 hval
        have em8 := t8 _ _ (s7 _ _ emG)
        have eo8 := t8 _ _ (s7 _ _ eoG)
        -- told alike
        refine ⟨_, rfl, _, rfl, _, rfl, by show 2 ≤ sizeLine; decide, fun k9 nk9 => ?_⟩
        have s9 : Same G8 (upd G8 k9 (.tup [.ref t, .ref u])) := same_upd nk9
        have e9 : upd G8 k9 (.tup [.ref t, .ref u]) k9 = some (.tup [.ref t, .ref u]) := upd_same
        generalize upd G8 k9 (HO.tup [.ref t, .ref u]) = G9 at s9 e9 ⊢
        have ents9 := ent_mono ents8 fun c xs h => s9 c _ h
        refine ⟨dd, xs8, pk m o, k9, _, rfl, rfl, .inl (s9 _ _ e8), ent_kn ents9, nk_pk e9 (s9 _ _ em8) (s9 _ _ eo8), pk_depth m o, hval, ?_⟩
        refine ⟨_, .bool (lead m o), rfl, .bl _, rfl, Nat.zero_le _, bsh _, ?_⟩
        refine ⟨_, rfl, _, rfl, t, u, m, o, rfl, rowE (s9 _ _ em8) okm, rowE (s9 _ _ eo8) oko, .inr h3m, fun G10 pb s10 eb => ?_⟩
        refine ⟨by show 0 ≤ sizeLine; decide, fun et net => ?_⟩
        have s11 : Same G10 (upd G10 et (.tup [])) := same_upd net
        have eet : upd G10 et (.tup []) et = some (.tup []) := upd_same
        generalize upd G10 et (HO.tup []) = G11 at s11 eet ⊢
        refine ⟨.tuple ((brkT m o).map PyData.str), .tuple [], .tup (SqT.of (s11 _ _ eb)) (dpStrsG _), .tup (SqT.of eet) .nil, shapedT_strs _ (brk_layG m o), rfl, ?_⟩
        rw [eq_nil]
        refine ⟨_, .bool (lead m o), rfl, .bl _, rfl, Nat.zero_le _, bsh _, rfl, _, rfl, iteNS rfl ?_⟩
        have s8b := s9.trans (s10.trans s11)
        have kdF : ∀ {G' : Hp}, Same G8 G' → KD G' := fun s z v hz h => s _ _ (kd8 z v hz h)
        refine ⟨_, rfl, _, rfl, rowDt m, rowDt o, .tup (SqT.of (s8b _ _ em8)) (dpIntsG m), .tup (SqT.of (s8b _ _ eo8)) (dpIntsG o), shapedT_ints m, shapedT_ints o, ?_⟩
        rw [show PyData.eqv (rowDt m) (rowDt o) = decide (m = o) from eqv_rows m o]
        by_cases eqm : m = o
        · rw [decide_eq_true eqm]
          refine ⟨_, rfl, iteT ?_⟩
          refine ⟨_, rfl, _, rfl, _, rfl, by show 2 ≤ sizeLine; decide, fun k12 nk12 => ?_⟩
          have s12 : Same G11 (upd G11 k12 (.tup [.ref t, .ref u])) := same_upd nk12
          have e12 : upd G11 k12 (.tup [.ref t, .ref u]) k12 = some (.tup [.ref t, .ref u]) := upd_same
          generalize upd G11 k12 (HO.tup [.ref t, .ref u]) = G12 at s12 e12 ⊢
          have s8c := s8b.trans s12
          have ents12 := ent_mono ents8 fun c xs h => s8c c _ h
          refine ⟨dd, xs8, pk m o, k12, _, rfl, rfl, .inl (s8c _ _ e8), ent_kn ents12, nk_pk e12 (s8c _ _ em8) (s8c _ _ eo8), pk_depth m o, hval, ?_⟩
          have l1 : lead m o = true := by
            unfold lead
            rw [eqm]
            exact decide_eq_true (by unfold brkT; rw [if_pos rfl])
          rw [l1]
          exact ⟨_, rfl, iteF ⟨xs8, _, rfl, ⟨kdF s8c, s8c _ _ e8, ents12⟩, lx8, cov8⟩⟩
        · rw [decide_eq_false eqm]
          exact ⟨_, rfl, iteF ⟨xs8, _, rfl, ⟨kdF s8b, s8b _ _ e8, ent_mono ents8 fun c xs h => s8b c _ h⟩, lx8, cov8⟩⟩
      · rintro σ G ⟨xs, y9, rfl, st, lx, cov⟩
        rw [List.length_map] at lx cov
        refine ⟨xs, _, _, _, _, _, _, rfl, st, by omega, fun i' j' r' o' h1 h2 h => ?_⟩
        refine cov i' j' r' o' h1 h2 ?_
        by_cases e : i' = i
        · refine .inr ⟨e, ?_⟩
          have := (List.getElem?_eq_some_iff.mp h2).1
          rw [← rv5.1] at this
          exact this
        · exact .inl (by omega)
    rintro σ G6 ⟨xs, y3, y4, y5, y7, y9, y10, rfl, ⟨kd, edd, ents⟩, lx, cov⟩
    rw [List.length_map] at cov
    have full : ∀ r ∈ W, ∀ o ∈ W, ∃ x ∈ xs, x.1 = pk r o := fun r hr o ho => by
      obtain ⟨i, hi, rfl⟩ := List.mem_iff_getElem.mp hr
      obtain ⟨j, hj, rfl⟩ := List.mem_iff_getElem.mp ho
      exact cov i j _ _ (List.getElem?_eq_getElem hi) (List.getElem?_eq_getElem hj) (.inl (by rw [rv5.1]; exact hi))
    -- what comes of what comes
    refine ⟨dd, _, edd, trivial, fun od => ?_⟩
    have eF : upd G6 dd (.frz od (DN P w dd xs)) dd = some (.frz od (DN P w dd xs)) := upd_same
    have kL : ∀ z, z ≠ dd → upd G6 dd (.frz od (DN P w dd xs)) z = G6 z := fun z hz => upd_ne hz
    generalize upd G6 dd (HO.frz od (DN P w dd xs)) = GL at eF kL ⊢
    have tL : ∀ {c : Addr} {ys : List V}, G6 c = some (.tup ys) → GL c = some (.tup ys) := fun {c ys} h => by
      rw [kL c (fun y => by rw [y, edd] at h; cases h)]
      exact h
    have eDL : GL D3 = some (.lst (vs.map V.ref)) := by rw [kL _ D3d]; exact kd _ _ D3d eD5
    have rvL : ∀ (j : Nat) (u : Addr) (o : List Int), vs[j]? = some u → W[j]? = some o → GL u = some (.tup (o.map V.int)) := fun j u o h1 h2 => tL (tupD kd (rv5.2 j u o h1 h2))
    refine ⟨_, rfl, dd, od, xs, rfl, eF, ?_⟩
    refine for_it (walk_n (P := P) (w := w) (d := dd) (o := od) (xs := xs)) (fun _ σ G => ∃ (y3 y4 y5 y7 y9 y10 : Option V), σ = [some (.ref b), some (.ref a), some (.ref L), y3, y4, y5, some (.ref D3), y7, some (.ref dd), y9, y10] ∧ Same GL G) ⟨_, _, _, _, _, _, rfl, .refl GL⟩ ?_ ?_ ?_
    · rintro i σ G _ ⟨y3, y4, y5, y7, y9, y10, rfl, sG⟩
      exact sG _ _ eF
    · rintro i x σ G G' hi ⟨y3, y4, y5, y7, y9, y10, rfl, sG⟩ ⟨rfl, kk, q0, v0, hx, rfl⟩
      obtain ⟨t, u, m, o, hm, ho, h3, h4, h5', h6, h7⟩ := ents _ (List.mem_of_getElem? hx)
      obtain ⟨okm, cm⟩ := okW m hm
      obtain ⟨oko, co⟩ := okW o ho
      refine ⟨q0, [.ref t, .ref u], rfl, .inl (.inl (sG _ _ (tL h5'))), rfl, .ref t, [.ref u], rfl, .ref u, [], rfl, rfl, ?_⟩
      refine ⟨_, rfl, D3, rfl, ⟨_, SqL.of (sG _ _ eDL)⟩, ?_⟩
      refine for_list (K := K) (a := D3) (xs := vs.map V.ref) (fun j σ G => ∃ (y10 : Option V), σ = [some (.ref b), some (.ref a), some (.ref L), y3, y4, y5, some (.ref D3), some (.ref t), some (.ref dd), some (.ref u), y10] ∧ Same GL G) ⟨_, rfl, sG⟩ ?_ ?_ ?_
      · rintro j σ G _ ⟨y10, rfl, sG⟩
        exact SqL.of (sG _ _ eDL)
      · rintro j x σ G hx ⟨y10, rfl, sG⟩
        rw [List.getElem?_map] at hx
        obtain ⟨c, hc, rfl⟩ := Option.map_eq_some_iff.mp hx
        have hj8 : j < vs.length := (List.getElem?_eq_some_iff.mp hc).1
        obtain ⟨e, he⟩ : ∃ e, W[j]? = some e := ⟨W[j]'(by rw [← rv5.1]; exact hj8), List.getElem?_eq_getElem _⟩
        have ec := rvL j c e hc he
        have hem := List.mem_of_getElem? he
        obtain ⟨oke, ce⟩ := okW e hem
        have et := tL h6
        have eu := tL h7
        have look : ∀ {G' : Hp} {k2 x1 x2 : Addr} {r1 r2 : List Int}, Same GL G' → G' k2 = some (.tup [.ref x1, .ref x2]) → GL x1 = some (.tup (r1.map V.int)) → GL x2 = some (.tup (r2.map V.int)) → r1 ∈ W → r2 ∈ W →
            RdN P w G' dd xs ∧ KN G' xs ∧ NKey G' (pk r1 r2) (.ref k2) ∧ valN xs (pk r1 r2) = some (.bl (lead r1 r2)) := fun s ek e1 e2 w1 w2 =>
          ⟨.inr ⟨od, s _ _ eF⟩, ent_kn (ent_mono ents fun c ys h => s c _ (tL h)), nk_pk ek (s _ _ e1) (s _ _ e2), ent_val ents (full _ w1 _ w2)⟩
        refine ⟨_, rfl, _, rfl, _, rfl, by show 2 ≤ sizeLine; decide, fun k1 nk1 => ?_⟩
        have z1 := sG.trans (same_upd nk1 (o := .tup [.ref t, .ref u]))
        obtain ⟨a1, a2, a3, a4⟩ := look z1 (upd_same (a := k1)) et eu hm ho
        refine ⟨dd, xs, pk m o, k1, _, rfl, rfl, a1, a2, a3, pk_depth m o, a4, _, rfl, ?_⟩
        generalize upd G k1 (HO.tup [.ref t, .ref u]) = G1' at z1 ⊢
        cases l1 : lead m o with
        | false => exact iteF ⟨_, rfl, z1⟩
        | true =>
        refine iteT ⟨_, rfl, _, rfl, _, rfl, by show 2 ≤ sizeLine; decide, fun k2 nk2 => ?_⟩
        have z2 := z1.trans (same_upd nk2 (o := .tup [.ref u, .ref c]))
        obtain ⟨a1, a2, a3, a4⟩ := look z2 (upd_same (a := k2)) eu ec ho hem
        refine ⟨dd, xs, pk o e, k2, _, rfl, rfl, a1, a2, a3, pk_depth o e, a4, _, rfl, ?_⟩
        generalize upd G1' k2 (HO.tup [.ref u, .ref c]) = G2' at z2 ⊢
        cases l2 : lead o e with
        | false => exact iteF ⟨_, rfl, z2⟩
        | true =>
        refine iteT ⟨_, rfl, _, rfl, _, rfl, by show 2 ≤ sizeLine; decide, fun k3 nk3 => ?_⟩
        have z3 := z2.trans (same_upd nk3 (o := .tup [.ref t, .ref c]))
        obtain ⟨a1, a2, a3, a4⟩ := look z3 (upd_same (a := k3)) et ec hm hem
        refine ⟨dd, xs, pk m e, k3, _, rfl, rfl, a1, a2, a3, pk_depth m e, a4, _, rfl, ?_⟩
        have l3 : lead m e = true := by
          unfold lead at l1 l2 ⊢
          have h3m : 3 ≤ (hold m m.length).length := by rw [← cnt_hold]; exact cm
          have h3o : 3 ≤ (hold o o.length).length := by rw [← cnt_hold]; exact co
          have b1 := of_decide_eq_true l1
          have b2 := of_decide_eq_true l2
          rw [← brkF_three h3m] at b1 ⊢
          rw [← brkF_three h3o] at b2
          exact decide_eq_true (brk_trans okm.1 oko.1 oke.1 b1 b2)
        rw [l3]
        exact iteF ⟨_, rfl, z3⟩
      · rintro σ G ⟨y10, rfl, sG⟩
        exact ⟨_, _, _, _, _, _, rfl, sG⟩
    rintro σ G ⟨y3, y4, y5, y7, y9, y10, rfl, sG⟩
    refine ⟨sG _ _ eF, ?_⟩
    have nH : H dd = none := by
      cases y : H dd with
      | none => rfl
      | some o => have := sx4 dd o bd.symm y; rw [nd] at this; cases this
    have up : ∀ z o, z ≠ dd → G5 z = some o → G z = some o := fun z o hz h => sG z o (by rw [kL z hz]; exact kd z o hz h)
    refine want _ (fun z o zb hz => ?_) ?_
    · have zd := ne_of_none hz nH
      rw [upd_ne zd]
      exact up z o zd (h5 _ _ (sx4 z o zb hz))
    · obtain ⟨_, h⟩ := hB5.get
      exact (hB5.at (by rw [upd_ne bd, h]; exact up _ _ bd h)).le (by omega)
end
end K70

namespace K70
open PySem PySem.Spec PyProof.Rows L2 MG
abbrev sLaw : Stmt := topS 37
abbrev nLaw : List Str := ["_law_script", "_law_k", "_law_box_here", "_law_turn"]
theorem scLaw : FnScope ["_law_script", "_law_k", "_law_box_here", "_law_turn"] ["_law_script"] (defScope sLaw) := ⟨rfl, rfl, rfl, by decide +kernel, rfl, by decide +kernel, by decide +kernel⟩
section
variable {P : Program} {w : World} {K : PySem.W.Frag} {mg : Str → Option Value} {base : Heap}
def spLaw (K : PySem.W.Frag) : Sp := fun vs H Q _ => ∃ (a : Addr) (ns : List Int), vs = [.ref a] ∧ SqL K H a (ns.map V.int) ∧ ns.length ≤ 63 ∧ ∀ H', Q (.bl true) H'
theorem ok_law {f fX fT fGt fRi : Addr} {fd fdX fdT fdGt fdRi : FuncData} {k : Nat} (F : Fun K "law" "law" sLaw f fd)
    (FX : Fun K "_law_box" "_law_box" sBox fX fdX) (bX : Binds K fdX ["_law_script", "_law_k"] []) (gX : mg "_law_box" = some (.ref fX)) (GX : FnOk P w K mg base CX0 (k + 1) fX fdX ["_law_script", "_law_k"] (spBox K))
    (FT : Fun K "_law_take" "_law_take" sTake fT fdT) (bT : Binds K fdT ["_law_box_here", "_law_many"] []) (gT : mg "_law_take" = some (.ref fT))
    (FGt : Fun K "_law_great" "_law_great" sGreat fGt fdGt) (bGt : Binds K fdGt ["_law_box_here", "_law_least", "_law_greatest_here", "_law_figures"] []) (gGt : mg "_law_great" = some (.ref fGt)) (GGt : FnOk P w K mg base CX0 (k + 3) fGt fdGt ["_law_box_here", "_law_least", "_law_greatest_here", "_law_figures"] spGreat)
    (FRi : Fun K "_law_right" "_law_right" sRight fRi fdRi) (bRi : Binds K fdRi ["_law_box_here", "_law_row"] []) (gRi : mg "_law_right" = some (.ref fRi)) (GRi : FnG P w K mg base (k + 8) fRi fdRi ["_law_box_here", "_law_row"] spRight)
    (m_len : mg "len" = none) (m_min : mg "min" = none) (m_max : mg "max" = none) (m_range : mg "range" = none) : FnG P w K mg base (k + 9) f fd ["_law_script"] (spLaw K) := by
  have GT : FnOk P w K mg base CX0 (k + 1) fT fdT ["_law_box_here", "_law_many"] spTake := ok_take FT
  refine okG F scLaw (fun vs H Q E h => ?_) (fun cdv A outer s H vs Q E gd hr h => ?_)
  · obtain ⟨a, ns, rfl, _⟩ := h
    rfl
  · obtain ⟨a, ns, rfl, hS, hlen, q⟩ := h
    have hr8 := hr
    have hr3 := hr.mono (show k + 3 ≤ k + 8 by omega)
    have hr1 := hr.mono (show k + 1 ≤ k + 8 by omega)
    refine ⟨_, pss_cons (ps_for PassesOwn.never rfl (pi_range1 (by rfl) m_range (pa_cons (pe_callB (call_max2 rfl) (by rfl) m_max (by decide +kernel) (pa_cons pe_int (pa_cons (pe_callB (call_min2 rfl) (by rfl) m_min (by decide +kernel) (pa_cons pe_int (pa_cons (pe_callB call_len_seq (by rfl) m_len PySem.boot_len (pa_cons (pv 0) pa_nil)) pa_nil))) pa_nil))) pa_nil)) (pg_name (i := 1) scLaw.nd rfl (.inl rfl)) (pss_cons (ps_set (i := 2) scLaw.nd rfl (.inl rfl) (pe_call GX hr1 (by rfl) gX FX.kp bX .nil pass0 (pa_cons (pv 0) (pa_cons (pv 1) pa_nil))))
      (pss_one (ps_for PassesOwn.never rfl (pi_range1 (by rfl) m_range (pa_cons pe_int pa_nil)) (pg_name (i := 3) scLaw.nd rfl (.inl rfl)) (pss_one (ps_if (pt_not (pt_val (pe_callG (E := E0) GRi gd hr8 (by rfl) gRi FRi.kp bRi (pa_cons (pv 2) (pa_cons (pe_call GGt hr3 (by rfl) gGt FGt.kp bGt .nil pass0 (pa_cons (pv 2) (pa_cons pe_int (pa_cons pe_int (pa_cons (pe_ix ix_list (pe_lst (pa_cons pe_int (pa_cons pe_int (pa_cons pe_int (pa_cons pe_int pa_nil))))) (pe_call GT hr1 (by rfl) gT FT.kp bT .nil pass0 (pa_cons (pv 2) (pa_cons pe_int pa_nil))) (fun _ _ => rfl)) pa_nil))))) pa_nil))))) (pss_one (ps_ret pe_bl)) pss_nil))))))
      (pss_one (ps_ret pe_bl)), ?_⟩
    refine ⟨.ref a, rfl, a, _, rfl, .inl hS, 3, _, rfl, 1, _, rfl, _, rfl, ?_, ?_, ?_⟩
    · rw [List.length_map]; repeat' split <;> omega
    · rw [List.length_map]; repeat' split <;> omega
    refine for_range (lo := 0) (n := _) (fun _ σ H' => ∃ y1 y2 y3, σ = [some (.ref a), y1, y2, y3] ∧ Same H H') ⟨_, _, _, rfl, .refl H⟩ ?_ ?_
    rotate_left
    · rintro σ H' ⟨y1, y2, y3, rfl, _⟩
      exact q H'
    rintro j σ G0 hj ⟨y1, y2, y3, rfl, s0⟩
    have hj4 : j < 5 := by
      refine Nat.lt_of_lt_of_le hj ?_
      rw [List.length_map]; repeat' split <;> omega
    refine ⟨.ref a, rfl, _, rfl, a, ns, 0 + (j : Int), rfl, s0.seq hS, by omega, by omega, fun b H1 nb s1 hB k1 => ?_⟩
    have keep : ∀ {G : Hp}, SX b H1 G → Same H G := fun x c o hc => x c o (ne_of_none (s0 _ _ hc) nb) (s1 _ _ (s0 _ _ hc))
    refine ⟨2, rfl, by decide, by decide, ?_⟩
    refine for_range (lo := 0) (n := 2) (fun i σ G => ∃ y3, σ = [some (.ref a), some (.int (0 + (j : Int))), some (.ref b), y3] ∧ SX b H1 G ∧ Box G b (0 + 1000 * i)) ⟨_, rfl, .refl b H1, hB⟩ ?_ ?_
    rotate_left
    · rintro σ G ⟨y3, rfl, sx, _⟩
      exact ⟨_, _, _, rfl, keep sx⟩
    rintro i σ G hi ⟨y3, rfl, sx, hBG⟩
    have hi2 : i < 2 := hi
    refine ⟨_, rfl, _, rfl, by show 4 ≤ sizeLine; decide, fun l nl => ?_⟩
    have s2 : Same G (upd G l (.lst [.int 1, .int 2, .int 9, .int 27])) := same_upd nl
    have e2 : upd G l (.lst [.int 1, .int 2, .int 9, .int 27]) l = some (.lst [.int 1, .int 2, .int 9, .int 27]) := upd_same
    have lb : l ≠ b := by obtain ⟨_, h⟩ := hBG.get; exact (ne_of_none h nl).symm
    have hB2 : Box (upd G l (.lst [.int 1, .int 2, .int 9, .int 27])) b (0 + 1000 * i) := hBG.new nl
    generalize upd G l (HO.lst [.int 1, .int 2, .int 9, .int 27]) = G2 at s2 e2 hB2 ⊢
    refine ⟨_, rfl, b, 4, _, rfl, hB2, by omega, by decide, by decide, fun m G3 m0 m1 B3 k3 => ?_⟩
    obtain ⟨m, rfl⟩ := Int.eq_ofNat_of_zero_le m0
    obtain ⟨fi, hf, f1, f2⟩ : ∃ fi : Nat, atI [V.int 1, .int 2, .int 9, .int 27] (m : Int) = some (V.int (fi : Nat)) ∧ 1 ≤ fi ∧ fi ≤ 27 := by
      match m, m1 with
      | 0, _ => exact ⟨1, atI_nat (j := 0) rfl, by decide, by decide⟩
      | 1, _ => exact ⟨2, atI_nat (j := 1) rfl, by decide, by decide⟩
      | 2, _ => exact ⟨9, atI_nat (j := 2) rfl, by decide, by decide⟩
      | 3, _ => exact ⟨27, atI_nat (j := 3) rfl, by decide, by decide⟩
      | n + 4, h => exact absurd h (by omega)
    refine ⟨l, _, (m : Int), .int (fi : Nat), rfl, rfl, SqL.of (by rw [k3 _ lb]; exact e2), hf, ?_⟩
    refine ⟨b, 3, 6, (fi : Nat), _, rfl, B3, by omega, by decide, by decide, by decide, by omega, by omega, fun p G4 r np hl hx hp hl2 hc B4 sx4 ep => ?_⟩
    have pw : ((10 ^ fi : Nat) : Int) ≤ 10 ^ 27 := by
      have h1 : (10 : Nat) ^ fi ≤ 10 ^ 27 := Nat.pow_le_pow_right (by decide) f2
      have h2 : ((10 ^ fi : Nat) : Int) ≤ ((10 ^ 27 : Nat) : Int) := Int.ofNat_le.mpr h1
      exact h2
    rw [Int.toNat_natCast] at hx
    have e110 : (12 * (12 * (10 ^ 27 + 1)) : Int) < 2 ^ 110 := by decide
    have sm : r.sum < 2 ^ 110 := by
      have h1 := sum_le_mul (c := 12 * (10 ^ 27 + 1)) fun n hn => by have := (hx n hn).2; omega
      have h2 : (r.length : Int) * (12 * (10 ^ 27 + 1)) ≤ 12 * (12 * (10 ^ 27 + 1)) := Int.mul_le_mul_of_nonneg_right (by omega) (by decide)
      omega
    refine ⟨b, p, r, _, rfl, B4, by omega, ep, fun n hn => (hx n hn).1, hl, by omega, sm, fun G5 sx5 B5 => ⟨true, rfl, iteF ?_⟩⟩
    exact ⟨_, rfl, sx.trans ((SX.of_same s2).trans ((SX.of_eq k3).trans (sx4.trans sx5))), B5.le (by omega)⟩
end
end K70

namespace K70
open PySem PySem.Spec PyProof.Rows L2 MG
theorem all_mk {l : PySem.W.OpenLaw} {w : World} {K : PySem.W.Frag} {h : Heap} {mg : Str → Option Value} {fa : Addr} (X : K.In h) (G : h.Ns mainGlobals mg) (hfa : mg "law" = some (.ref fa))
    {fBox : Addr} {odBox anBox : Option Addr} {slBox : Array (Option Value)} {ocBox kVBox dcBox pmBox cdBox ctBox : Value}
    (aBox : PySem.W.nsIn K mainGlobals "_law_box" = some (some (.ref fBox))) (lBox : K.lookup fBox = some ⟨ocBox, odBox, .func (PySem.W.fnOf "_law_box" "_law_box" (defArgs sBox) (defBody sBox) (defScope sBox) .none kVBox dcBox pmBox anBox cdBox ctBox), slBox⟩) (cBox : PySem.W.codeIn K cdBox "_law_box" = true) (kBox : PySem.W.keepIn K (.ref fBox) = true)
    {fTake : Addr} {odTake anTake : Option Addr} {slTake : Array (Option Value)} {ocTake kVTake dcTake pmTake cdTake ctTake : Value}
    (aTake : PySem.W.nsIn K mainGlobals "_law_take" = some (some (.ref fTake))) (lTake : K.lookup fTake = some ⟨ocTake, odTake, .func (PySem.W.fnOf "_law_take" "_law_take" (defArgs sTake) (defBody sTake) (defScope sTake) .none kVTake dcTake pmTake anTake cdTake ctTake), slTake⟩) (cTake : PySem.W.codeIn K cdTake "_law_take" = true) (kTake : PySem.W.keepIn K (.ref fTake) = true)
    {fOf : Addr} {odOf anOf : Option Addr} {slOf : Array (Option Value)} {ocOf kVOf dcOf pmOf cdOf ctOf : Value}
    (aOf : PySem.W.nsIn K mainGlobals "_law_of" = some (some (.ref fOf))) (lOf : K.lookup fOf = some ⟨ocOf, odOf, .func (PySem.W.fnOf "_law_of" "_law_of" (defArgs sOf) (defBody sOf) (defScope sOf) .none kVOf dcOf pmOf anOf cdOf ctOf), slOf⟩) (cOf : PySem.W.codeIn K cdOf "_law_of" = true) (kOf : PySem.W.keepIn K (.ref fOf) = true)
    {fPlaces : Addr} {odPlaces anPlaces : Option Addr} {slPlaces : Array (Option Value)} {ocPlaces kVPlaces dcPlaces pmPlaces cdPlaces ctPlaces : Value}
    (aPlaces : PySem.W.nsIn K mainGlobals "_law_places" = some (some (.ref fPlaces))) (lPlaces : K.lookup fPlaces = some ⟨ocPlaces, odPlaces, .func (PySem.W.fnOf "_law_places" "_law_places" (defArgs sPlaces) (defBody sPlaces) (defScope sPlaces) .none kVPlaces dcPlaces pmPlaces anPlaces cdPlaces ctPlaces), slPlaces⟩) (cPlaces : PySem.W.codeIn K cdPlaces "_law_places" = true) (kPlaces : PySem.W.keepIn K (.ref fPlaces) = true)
    {fTens : Addr} {odTens anTens : Option Addr} {slTens : Array (Option Value)} {ocTens kVTens dcTens pmTens cdTens ctTens : Value}
    (aTens : PySem.W.nsIn K mainGlobals "_law_tens" = some (some (.ref fTens))) (lTens : K.lookup fTens = some ⟨ocTens, odTens, .func (PySem.W.fnOf "_law_tens" "_law_tens" (defArgs sTens) (defBody sTens) (defScope sTens) .none kVTens dcTens pmTens anTens cdTens ctTens), slTens⟩) (cTens : PySem.W.codeIn K cdTens "_law_tens" = true) (kTens : PySem.W.keepIn K (.ref fTens) = true)
    {fGreat : Addr} {odGreat anGreat : Option Addr} {slGreat : Array (Option Value)} {ocGreat kVGreat dcGreat pmGreat cdGreat ctGreat : Value}
    (aGreat : PySem.W.nsIn K mainGlobals "_law_great" = some (some (.ref fGreat))) (lGreat : K.lookup fGreat = some ⟨ocGreat, odGreat, .func (PySem.W.fnOf "_law_great" "_law_great" (defArgs sGreat) (defBody sGreat) (defScope sGreat) .none kVGreat dcGreat pmGreat anGreat cdGreat ctGreat), slGreat⟩) (cGreat : PySem.W.codeIn K cdGreat "_law_great" = true) (kGreat : PySem.W.keepIn K (.ref fGreat) = true)
    {fHad : Addr} {odHad anHad : Option Addr} {slHad : Array (Option Value)} {ocHad kVHad dcHad pmHad cdHad ctHad : Value}
    (aHad : PySem.W.nsIn K mainGlobals "_law_had" = some (some (.ref fHad))) (lHad : K.lookup fHad = some ⟨ocHad, odHad, .func (PySem.W.fnOf "_law_had" "_law_had" (defArgs sHad) (defBody sHad) (defScope sHad) .none kVHad dcHad pmHad anHad cdHad ctHad), slHad⟩) (cHad : PySem.W.codeIn K cdHad "_law_had" = true) (kHad : PySem.W.keepIn K (.ref fHad) = true)
    {fGcd : Addr} {odGcd anGcd : Option Addr} {slGcd : Array (Option Value)} {ocGcd kVGcd dcGcd pmGcd cdGcd ctGcd : Value}
    (aGcd : PySem.W.nsIn K mainGlobals "_law_greatest" = some (some (.ref fGcd))) (lGcd : K.lookup fGcd = some ⟨ocGcd, odGcd, .func (PySem.W.fnOf "_law_greatest" "_law_greatest" (defArgs sGcd) (defBody sGcd) (defScope sGcd) .none kVGcd dcGcd pmGcd anGcd cdGcd ctGcd), slGcd⟩) (cGcd : PySem.W.codeIn K cdGcd "_law_greatest" = true) (kGcd : PySem.W.keepIn K (.ref fGcd) = true)
    {fPow : Addr} {odPow anPow : Option Addr} {slPow : Array (Option Value)} {ocPow kVPow dcPow pmPow cdPow ctPow : Value}
    (aPow : PySem.W.nsIn K mainGlobals "_law_power" = some (some (.ref fPow))) (lPow : K.lookup fPow = some ⟨ocPow, odPow, .func (PySem.W.fnOf "_law_power" "_law_power" (defArgs sPow) (defBody sPow) (defScope sPow) .none kVPow dcPow pmPow anPow cdPow ctPow), slPow⟩) (cPow : PySem.W.codeIn K cdPow "_law_power" = true) (kPow : PySem.W.keepIn K (.ref fPow) = true)
    {fLeapt : Addr} {odLeapt anLeapt : Option Addr} {slLeapt : Array (Option Value)} {ocLeapt kVLeapt dcLeapt pmLeapt cdLeapt ctLeapt : Value}
    (aLeapt : PySem.W.nsIn K mainGlobals "_law_leapt" = some (some (.ref fLeapt))) (lLeapt : K.lookup fLeapt = some ⟨ocLeapt, odLeapt, .func (PySem.W.fnOf "_law_leapt" "_law_leapt" (defArgs sLeapt) (defBody sLeapt) (defScope sLeapt) .none kVLeapt dcLeapt pmLeapt anLeapt cdLeapt ctLeapt), slLeapt⟩) (cLeapt : PySem.W.codeIn K cdLeapt "_law_leapt" = true) (kLeapt : PySem.W.keepIn K (.ref fLeapt) = true)
    {fFurther : Addr} {odFurther anFurther : Option Addr} {slFurther : Array (Option Value)} {ocFurther kVFurther dcFurther pmFurther cdFurther ctFurther : Value}
    (aFurther : PySem.W.nsIn K mainGlobals "_law_further" = some (some (.ref fFurther))) (lFurther : K.lookup fFurther = some ⟨ocFurther, odFurther, .func (PySem.W.fnOf "_law_further" "_law_further" (defArgs sFurther) (defBody sFurther) (defScope sFurther) .none kVFurther dcFurther pmFurther anFurther cdFurther ctFurther), slFurther⟩) (cFurther : PySem.W.codeIn K cdFurther "_law_further" = true) (kFurther : PySem.W.keepIn K (.ref fFurther) = true)
    {fTwosIn : Addr} {odTwosIn anTwosIn : Option Addr} {slTwosIn : Array (Option Value)} {ocTwosIn kVTwosIn dcTwosIn pmTwosIn cdTwosIn ctTwosIn : Value}
    (aTwosIn : PySem.W.nsIn K mainGlobals "twos_in" = some (some (.ref fTwosIn))) (lTwosIn : K.lookup fTwosIn = some ⟨ocTwosIn, odTwosIn, .func (PySem.W.fnOf "twos_in" "twos_in" (defArgs sTwosIn) (defBody sTwosIn) (defScope sTwosIn) .none kVTwosIn dcTwosIn pmTwosIn anTwosIn cdTwosIn ctTwosIn), slTwosIn⟩) (cTwosIn : PySem.W.codeIn K cdTwosIn "twos_in" = true) (kTwosIn : PySem.W.keepIn K (.ref fTwosIn) = true)
    {fCommon : Addr} {odCommon anCommon : Option Addr} {slCommon : Array (Option Value)} {ocCommon kVCommon dcCommon pmCommon cdCommon ctCommon : Value}
    (aCommon : PySem.W.nsIn K mainGlobals "common_part" = some (some (.ref fCommon))) (lCommon : K.lookup fCommon = some ⟨ocCommon, odCommon, .func (PySem.W.fnOf "common_part" "common_part" (defArgs sCommon) (defBody sCommon) (defScope sCommon) .none kVCommon dcCommon pmCommon anCommon cdCommon ctCommon), slCommon⟩) (cCommon : PySem.W.codeIn K cdCommon "common_part" = true) (kCommon : PySem.W.keepIn K (.ref fCommon) = true)
    {fUnit : Addr} {odUnit anUnit : Option Addr} {slUnit : Array (Option Value)} {ocUnit kVUnit dcUnit pmUnit cdUnit ctUnit : Value}
    (aUnit : PySem.W.nsIn K mainGlobals "unit" = some (some (.ref fUnit))) (lUnit : K.lookup fUnit = some ⟨ocUnit, odUnit, .func (PySem.W.fnOf "unit" "unit" (defArgs sUnit) (defBody sUnit) (defScope sUnit) .none kVUnit dcUnit pmUnit anUnit cdUnit ctUnit), slUnit⟩) (cUnit : PySem.W.codeIn K cdUnit "unit" = true) (kUnit : PySem.W.keepIn K (.ref fUnit) = true)
    {fTwos : Addr} {odTwos anTwos : Option Addr} {slTwos : Array (Option Value)} {ocTwos kVTwos dcTwos pmTwos cdTwos ctTwos : Value}
    (aTwos : PySem.W.nsIn K mainGlobals "twos" = some (some (.ref fTwos))) (lTwos : K.lookup fTwos = some ⟨ocTwos, odTwos, .func (PySem.W.fnOf "twos" "twos" (defArgs sTwos) (defBody sTwos) (defScope sTwos) .none kVTwos dcTwos pmTwos anTwos cdTwos ctTwos), slTwos⟩) (cTwos : PySem.W.codeIn K cdTwos "twos" = true) (kTwos : PySem.W.keepIn K (.ref fTwos) = true)
    {fHfn : Addr} {odHfn anHfn : Option Addr} {slHfn : Array (Option Value)} {ocHfn kVHfn dcHfn pmHfn cdHfn ctHfn : Value}
    (aHfn : PySem.W.nsIn K mainGlobals "has_from_nothing" = some (some (.ref fHfn))) (lHfn : K.lookup fHfn = some ⟨ocHfn, odHfn, .func (PySem.W.fnOf "has_from_nothing" "has_from_nothing" (defArgs sHfn) (defBody sHfn) (defScope sHfn) .none kVHfn dcHfn pmHfn anHfn cdHfn ctHfn), slHfn⟩) (cHfn : PySem.W.codeIn K cdHfn "has_from_nothing" = true) (kHfn : PySem.W.keepIn K (.ref fHfn) = true)
    {fOddPart : Addr} {odOddPart anOddPart : Option Addr} {slOddPart : Array (Option Value)} {ocOddPart kVOddPart dcOddPart pmOddPart cdOddPart ctOddPart : Value}
    (aOddPart : PySem.W.nsIn K mainGlobals "odd_part" = some (some (.ref fOddPart))) (lOddPart : K.lookup fOddPart = some ⟨ocOddPart, odOddPart, .func (PySem.W.fnOf "odd_part" "odd_part" (defArgs sOddPart) (defBody sOddPart) (defScope sOddPart) .none kVOddPart dcOddPart pmOddPart anOddPart cdOddPart ctOddPart), slOddPart⟩) (cOddPart : PySem.W.codeIn K cdOddPart "odd_part" = true) (kOddPart : PySem.W.keepIn K (.ref fOddPart) = true)
    {fMeasure : Addr} {odMeasure anMeasure : Option Addr} {slMeasure : Array (Option Value)} {ocMeasure kVMeasure dcMeasure pmMeasure cdMeasure ctMeasure : Value}
    (aMeasure : PySem.W.nsIn K mainGlobals "measure" = some (some (.ref fMeasure))) (lMeasure : K.lookup fMeasure = some ⟨ocMeasure, odMeasure, .func (PySem.W.fnOf "measure" "measure" (defArgs sMeasure) (defBody sMeasure) (defScope sMeasure) .none kVMeasure dcMeasure pmMeasure anMeasure cdMeasure ctMeasure), slMeasure⟩) (cMeasure : PySem.W.codeIn K cdMeasure "measure" = true) (kMeasure : PySem.W.keepIn K (.ref fMeasure) = true)
    {fOddOnes : Addr} {odOddOnes anOddOnes : Option Addr} {slOddOnes : Array (Option Value)} {ocOddOnes kVOddOnes dcOddOnes pmOddOnes cdOddOnes ctOddOnes : Value}
    (aOddOnes : PySem.W.nsIn K mainGlobals "odd_ones" = some (some (.ref fOddOnes))) (lOddOnes : K.lookup fOddOnes = some ⟨ocOddOnes, odOddOnes, .func (PySem.W.fnOf "odd_ones" "odd_ones" (defArgs sOddOnes) (defBody sOddOnes) (defScope sOddOnes) .none kVOddOnes dcOddOnes pmOddOnes anOddOnes cdOddOnes ctOddOnes), slOddOnes⟩) (cOddOnes : PySem.W.codeIn K cdOddOnes "odd_ones" = true) (kOddOnes : PySem.W.keepIn K (.ref fOddOnes) = true)
    {fHolders : Addr} {odHolders anHolders : Option Addr} {slHolders : Array (Option Value)} {ocHolders kVHolders dcHolders pmHolders cdHolders ctHolders : Value}
    (aHolders : PySem.W.nsIn K mainGlobals "holders" = some (some (.ref fHolders))) (lHolders : K.lookup fHolders = some ⟨ocHolders, odHolders, .func (PySem.W.fnOf "holders" "holders" (defArgs sHolders) (defBody sHolders) (defScope sHolders) .none kVHolders dcHolders pmHolders anHolders cdHolders ctHolders), slHolders⟩) (cHolders : PySem.W.codeIn K cdHolders "holders" = true) (kHolders : PySem.W.keepIn K (.ref fHolders) = true)
    {fAsked : Addr} {odAsked anAsked : Option Addr} {slAsked : Array (Option Value)} {ocAsked kVAsked dcAsked pmAsked cdAsked ctAsked : Value}
    (aAsked : PySem.W.nsIn K mainGlobals "asked_of_any" = some (some (.ref fAsked))) (lAsked : K.lookup fAsked = some ⟨ocAsked, odAsked, .func (PySem.W.fnOf "asked_of_any" "asked_of_any" (defArgs sAsked) (defBody sAsked) (defScope sAsked) .none kVAsked dcAsked pmAsked anAsked cdAsked ctAsked), slAsked⟩) (cAsked : PySem.W.codeIn K cdAsked "asked_of_any" = true) (kAsked : PySem.W.keepIn K (.ref fAsked) = true)
    {fBroken : Addr} {odBroken anBroken : Option Addr} {slBroken : Array (Option Value)} {ocBroken kVBroken dcBroken pmBroken cdBroken ctBroken : Value}
    (aBroken : PySem.W.nsIn K mainGlobals "broken" = some (some (.ref fBroken))) (lBroken : K.lookup fBroken = some ⟨ocBroken, odBroken, .func (PySem.W.fnOf "broken" "broken" (defArgs sBroken) (defBody sBroken) (defScope sBroken) .none kVBroken dcBroken pmBroken anBroken cdBroken ctBroken), slBroken⟩) (cBroken : PySem.W.codeIn K cdBroken "broken" = true) (kBroken : PySem.W.keepIn K (.ref fBroken) = true)
    {fComes : Addr} {odComes anComes : Option Addr} {slComes : Array (Option Value)} {ocComes kVComes dcComes pmComes cdComes ctComes : Value}
    (aComes : PySem.W.nsIn K mainGlobals "comes" = some (some (.ref fComes))) (lComes : K.lookup fComes = some ⟨ocComes, odComes, .func (PySem.W.fnOf "comes" "comes" (defArgs sComes) (defBody sComes) (defScope sComes) .none kVComes dcComes pmComes anComes cdComes ctComes), slComes⟩) (cComes : PySem.W.codeIn K cdComes "comes" = true) (kComes : PySem.W.keepIn K (.ref fComes) = true)
    {fMoved : Addr} {odMoved anMoved : Option Addr} {slMoved : Array (Option Value)} {ocMoved kVMoved dcMoved pmMoved cdMoved ctMoved : Value}
    (aMoved : PySem.W.nsIn K mainGlobals "_law_moved" = some (some (.ref fMoved))) (lMoved : K.lookup fMoved = some ⟨ocMoved, odMoved, .func (PySem.W.fnOf "_law_moved" "_law_moved" (defArgs sMoved) (defBody sMoved) (defScope sMoved) .none kVMoved dcMoved pmMoved anMoved cdMoved ctMoved), slMoved⟩) (cMoved : PySem.W.codeIn K cdMoved "_law_moved" = true) (kMoved : PySem.W.keepIn K (.ref fMoved) = true)
    {fRight : Addr} {odRight anRight : Option Addr} {slRight : Array (Option Value)} {ocRight kVRight dcRight pmRight cdRight ctRight : Value}
    (aRight : PySem.W.nsIn K mainGlobals "_law_right" = some (some (.ref fRight))) (lRight : K.lookup fRight = some ⟨ocRight, odRight, .func (PySem.W.fnOf "_law_right" "_law_right" (defArgs sRight) (defBody sRight) (defScope sRight) .none kVRight dcRight pmRight anRight cdRight ctRight), slRight⟩) (cRight : PySem.W.codeIn K cdRight "_law_right" = true) (kRight : PySem.W.keepIn K (.ref fRight) = true)
    {fLaw : Addr} {odLaw anLaw : Option Addr} {slLaw : Array (Option Value)} {ocLaw kVLaw dcLaw pmLaw cdLaw ctLaw : Value}
    (aLaw : PySem.W.nsIn K mainGlobals "law" = some (some (.ref fLaw))) (lLaw : K.lookup fLaw = some ⟨ocLaw, odLaw, .func (PySem.W.fnOf "law" "law" (defArgs sLaw) (defBody sLaw) (defScope sLaw) .none kVLaw dcLaw pmLaw anLaw cdLaw ctLaw), slLaw⟩) (cLaw : PySem.W.codeIn K cdLaw "law" = true) (kLaw : PySem.W.keepIn K (.ref fLaw) = true)
    (z_abs : PySem.W.nsIn K mainGlobals "abs" = some none)
    (z_all : PySem.W.nsIn K mainGlobals "all" = some none)
    (z_any : PySem.W.nsIn K mainGlobals "any" = some none)
    (z_enumerate : PySem.W.nsIn K mainGlobals "enumerate" = some none)
    (z_int : PySem.W.nsIn K mainGlobals "int" = some none)
    (z_len : PySem.W.nsIn K mainGlobals "len" = some none)
    (z_list : PySem.W.nsIn K mainGlobals "list" = some none)
    (z_max : PySem.W.nsIn K mainGlobals "max" = some none)
    (z_min : PySem.W.nsIn K mainGlobals "min" = some none)
    (z_range : PySem.W.nsIn K mainGlobals "range" = some none)
    (z_repr : PySem.W.nsIn K mainGlobals "repr" = some none)
    (z_sum : PySem.W.nsIn K mainGlobals "sum" = some none)
    (z_tuple : PySem.W.nsIn K mainGlobals "tuple" = some none)
    (z_zip : PySem.W.nsIn K mainGlobals "zip" = some none)
    : ∃ fd : FuncData, (∀ (s : Shared) (v : Value), BindsTo s fd ⟨[v], []⟩ [("_law_script", v)]) ∧ ∀ base : Heap, K.In base → base.Ns mainGlobals mg → SysD base → FnG l.prog w K mg base 9 fa fd ["_law_script"] (spLaw K) := by
  have e := hfa.symm.trans (PySem.W.mg_of X G aLaw)
  cases e
  have FBox := fun_mk (st := sBox) lBox cBox kBox
  have bBox := FBox.binds (ps := ["_law_script", "_law_k"]) fun _ _ _ _ _ _ us hl => match us, hl with | [_, _], _ => rfl
  have gBox := PySem.W.mg_of X G aBox
  have FTake := fun_mk (st := sTake) lTake cTake kTake
  have bTake := FTake.binds (ps := ["_law_box_here", "_law_many"]) fun _ _ _ _ _ _ us hl => match us, hl with | [_, _], _ => rfl
  have gTake := PySem.W.mg_of X G aTake
  have FOf := fun_mk (st := sOf) lOf cOf kOf
  have bOf := FOf.binds (ps := ["_law_box_here", "_law_some"]) fun _ _ _ _ _ _ us hl => match us, hl with | [_, _], _ => rfl
  have gOf := PySem.W.mg_of X G aOf
  have FPlaces := fun_mk (st := sPlaces) lPlaces cPlaces kPlaces
  have bPlaces := FPlaces.binds (ps := ["_law_box_here", "_law_amounts", "_law_nothing"]) fun _ _ _ _ _ _ us hl => match us, hl with | [_, _, _], _ => rfl
  have gPlaces := PySem.W.mg_of X G aPlaces
  have FTens := fun_mk (st := sTens) lTens cTens kTens
  have bTens := FTens.binds (ps := ["_law_size"]) fun _ _ _ _ _ _ us hl => match us, hl with | [_], _ => rfl
  have gTens := PySem.W.mg_of X G aTens
  have FGreat := fun_mk (st := sGreat) lGreat cGreat kGreat
  have bGreat := FGreat.binds (ps := ["_law_box_here", "_law_least", "_law_greatest_here", "_law_figures"]) fun _ _ _ _ _ _ us hl => match us, hl with | [_, _, _, _], _ => rfl
  have gGreat := PySem.W.mg_of X G aGreat
  have FHad := fun_mk (st := sHad) lHad cHad kHad
  have bHad := FHad.binds (ps := ["_law_row"]) fun _ _ _ _ _ _ us hl => match us, hl with | [_], _ => rfl
  have gHad := PySem.W.mg_of X G aHad
  have FGcd := fun_mk (st := sGcd) lGcd cGcd kGcd
  have bGcd := FGcd.binds (ps := ["_law_one", "_law_other"]) fun _ _ _ _ _ _ us hl => match us, hl with | [_, _], _ => rfl
  have gGcd := PySem.W.mg_of X G aGcd
  have FPow := fun_mk (st := sPow) lPow cPow kPow
  have bPow := FPow.binds (ps := ["_law_many", "_law_by"]) fun _ _ _ _ _ _ us hl => match us, hl with | [_, _], _ => rfl
  have gPow := PySem.W.mg_of X G aPow
  have FLeapt := fun_mk (st := sLeapt) lLeapt cLeapt kLeapt
  have bLeapt := FLeapt.binds (ps := ["_law_row", "_law_step"]) fun _ _ _ _ _ _ us hl => match us, hl with | [_, _], _ => rfl
  have gLeapt := PySem.W.mg_of X G aLeapt
  have FFurther := fun_mk (st := sFurther) lFurther cFurther kFurther
  have bFurther := FFurther.binds (ps := ["_law_box_here", "_law_row"]) fun _ _ _ _ _ _ us hl => match us, hl with | [_, _], _ => rfl
  have gFurther := PySem.W.mg_of X G aFurther
  have FTwosIn := fun_mk (st := sTwosIn) lTwosIn cTwosIn kTwosIn
  have bTwosIn := FTwosIn.binds (ps := ["n"]) fun _ _ _ _ _ _ us hl => match us, hl with | [_], _ => rfl
  have gTwosIn := PySem.W.mg_of X G aTwosIn
  have FCommon := fun_mk (st := sCommon) lCommon cCommon kCommon
  have bCommon := FCommon.binds (ps := ["a", "b"]) fun _ _ _ _ _ _ us hl => match us, hl with | [_, _], _ => rfl
  have gCommon := PySem.W.mg_of X G aCommon
  have FUnit := fun_mk (st := sUnit) lUnit cUnit kUnit
  have bUnit := FUnit.binds (ps := ["row"]) fun _ _ _ _ _ _ us hl => match us, hl with | [_], _ => rfl
  have gUnit := PySem.W.mg_of X G aUnit
  have FTwos := fun_mk (st := sTwos) lTwos cTwos kTwos
  have bTwos := FTwos.binds (ps := ["row"]) fun _ _ _ _ _ _ us hl => match us, hl with | [_], _ => rfl
  have gTwos := PySem.W.mg_of X G aTwos
  have FHfn := fun_mk (st := sHfn) lHfn cHfn kHfn
  have bHfn := FHfn.binds (ps := ["row", "other"]) fun _ _ _ _ _ _ us hl => match us, hl with | [_, _], _ => rfl
  have gHfn := PySem.W.mg_of X G aHfn
  have FOddPart := fun_mk (st := sOddPart) lOddPart cOddPart kOddPart
  have bOddPart := FOddPart.binds (ps := ["n"]) fun _ _ _ _ _ _ us hl => match us, hl with | [_], _ => rfl
  have gOddPart := PySem.W.mg_of X G aOddPart
  have FMeasure := fun_mk (st := sMeasure) lMeasure cMeasure kMeasure
  have bMeasure := FMeasure.binds (ps := ["row"]) fun _ _ _ _ _ _ us hl => match us, hl with | [_], _ => rfl
  have gMeasure := PySem.W.mg_of X G aMeasure
  have FOddOnes := fun_mk (st := sOddOnes) lOddOnes cOddOnes kOddOnes
  have bOddOnes := FOddOnes.binds (ps := ["row"]) fun _ _ _ _ _ _ us hl => match us, hl with | [_], _ => rfl
  have gOddOnes := PySem.W.mg_of X G aOddOnes
  have FHolders := fun_mk (st := sHolders) lHolders cHolders kHolders
  have bHolders := FHolders.binds (ps := ["row"]) fun _ _ _ _ _ _ us hl => match us, hl with | [_], _ => rfl
  have gHolders := PySem.W.mg_of X G aHolders
  have FAsked := fun_mk (st := sAsked) lAsked cAsked kAsked
  have bAsked := FAsked.binds (ps := ["row", "other"]) fun _ _ _ _ _ _ us hl => match us, hl with | [_, _], _ => rfl
  have gAsked := PySem.W.mg_of X G aAsked
  have FBroken := fun_mk (st := sBroken) lBroken cBroken kBroken
  have bBroken := FBroken.binds (ps := ["row", "other"]) fun _ _ _ _ _ _ us hl => match us, hl with | [_, _], _ => rfl
  have gBroken := PySem.W.mg_of X G aBroken
  have FComes := fun_mk (st := sComes) lComes cComes kComes
  have bComes := FComes.binds (ps := ["row", "other"]) fun _ _ _ _ _ _ us hl => match us, hl with | [_, _], _ => rfl
  have gComes := PySem.W.mg_of X G aComes
  have FMoved := fun_mk (st := sMoved) lMoved cMoved kMoved
  have bMoved := FMoved.binds (ps := ["_law_box_here", "_law_row"]) fun _ _ _ _ _ _ us hl => match us, hl with | [_, _], _ => rfl
  have gMoved := PySem.W.mg_of X G aMoved
  have FRight := fun_mk (st := sRight) lRight cRight kRight
  have bRight := FRight.binds (ps := ["_law_box_here", "_law_row"]) fun _ _ _ _ _ _ us hl => match us, hl with | [_, _], _ => rfl
  have gRight := PySem.W.mg_of X G aRight
  have FLaw := fun_mk (st := sLaw) lLaw cLaw kLaw
  have m_abs := PySem.W.mg_none_of X G z_abs
  have m_all := PySem.W.mg_none_of X G z_all
  have m_any := PySem.W.mg_none_of X G z_any
  have m_enumerate := PySem.W.mg_none_of X G z_enumerate
  have m_int := PySem.W.mg_none_of X G z_int
  have m_len := PySem.W.mg_none_of X G z_len
  have m_list := PySem.W.mg_none_of X G z_list
  have m_max := PySem.W.mg_none_of X G z_max
  have m_min := PySem.W.mg_none_of X G z_min
  have m_range := PySem.W.mg_none_of X G z_range
  have m_repr := PySem.W.mg_none_of X G z_repr
  have m_sum := PySem.W.mg_none_of X G z_sum
  have m_tuple := PySem.W.mg_none_of X G z_tuple
  have m_zip := PySem.W.mg_none_of X G z_zip
  refine ⟨PySem.W.fnOf "law" "law" (defArgs sLaw) (defBody sLaw) (defScope sLaw) .none kVLaw dcLaw pmLaw anLaw cdLaw ctLaw, fun s v => .of_eq rfl, fun base _ _ sys => ?_⟩
  have GBox := ok_box (P := l.prog) (w := w) (mg := mg) (base := base) (k := 0) FBox m_len m_abs m_int
  have GTake := ok_take (P := l.prog) (w := w) (mg := mg) (base := base) (k := 0) FTake
  have GOf := ok_of (P := l.prog) (w := w) (mg := mg) (base := base) (k := 0) FOf FTake bTake gTake m_len
  have GPlaces := ok_places (P := l.prog) (w := w) (mg := mg) (base := base) (k := 0) FPlaces FTake bTake gTake m_len m_list m_tuple
  have GTens := ok_tens (P := l.prog) (w := w) (mg := mg) (base := base) (k := 0) FTens m_range
  have GGreat := ok_great (P := l.prog) (w := w) (mg := mg) (base := base) (k := 0) FGreat FTake bTake gTake FOf bOf gOf FPlaces bPlaces gPlaces GPlaces FTens bTens gTens GTens m_len m_range
  have GHad := ok_had (P := l.prog) (w := w) (mg := mg) (base := base) (k := 0) FHad m_tuple m_enumerate
  have GGcd := ok_gcd (P := l.prog) (w := w) (mg := mg) (base := base) (k := 0) FGcd
  have GPow := ok_pow (P := l.prog) (w := w) (mg := mg) (base := base) (k := 0) FPow
  have GLeapt := ok_leapt (P := l.prog) (w := w) (mg := mg) (base := base) (k := 0) FLeapt FGcd bGcd gGcd GGcd FPow bPow gPow GPow m_list m_int m_tuple
  have GFurther := ok_further (P := l.prog) (w := w) (mg := mg) (base := base) (k := 0) FFurther FTake bTake gTake FOf bOf gOf FHad bHad gHad GHad FLeapt bLeapt gLeapt GLeapt m_len m_list m_range
  have GTwosIn := ok_twosIn (P := l.prog) (w := w) (mg := mg) (base := base) (k := 0) FTwosIn
  have GCommon := ok_common (P := l.prog) (w := w) (mg := mg) (base := base) (k := 0) FCommon
  have GUnit := ok_unit (P := l.prog) (w := w) (mg := mg) (base := base) (k := 0) FUnit FCommon bCommon gCommon
  have GTwos := ok_twos (P := l.prog) (w := w) (mg := mg) (base := base) (k := 0) FTwos FTwosIn bTwosIn gTwosIn GTwosIn FUnit bUnit gUnit GUnit
  have GHfn := ok_hfn (P := l.prog) (w := w) (mg := mg) (base := base) (k := 0) FHfn m_any m_zip
  have GOddPart := ok_oddPart (P := l.prog) (w := w) (mg := mg) (base := base) (k := 0) FOddPart FTwosIn bTwosIn gTwosIn
  have GMeasure := ok_measure (P := l.prog) (w := w) (mg := mg) (base := base) (k := 0) FMeasure FOddPart bOddPart gOddPart GOddPart FUnit bUnit gUnit GUnit
  have GOddOnes := ok_oddOnes (P := l.prog) (w := w) (mg := mg) (base := base) (k := 0) FOddOnes FTwosIn bTwosIn gTwosIn GTwosIn FTwos bTwos gTwos GTwos m_len
  have GHolders := ok_holders (P := l.prog) (w := w) (mg := mg) (base := base) (k := 0) FHolders m_tuple m_enumerate
  have GAsked := ok_asked (P := l.prog) (w := w) (mg := mg) (base := base) (k := 0) FAsked FTwos bTwos gTwos GTwos FHfn bHfn gHfn GHfn FMeasure bMeasure gMeasure GMeasure FOddOnes bOddOnes gOddOnes GOddOnes FHolders bHolders gHolders GHolders m_sum m_len
  have GBroken := ok_broken (P := l.prog) (w := w) (mg := mg) (base := base) (k := 0) FBroken FAsked bAsked gAsked GAsked FHolders bHolders gHolders GHolders m_len m_tuple
  have GComes := ok_comes (P := l.prog) (w := w) (mg := mg) (base := base) (k := 0) FComes FBroken bBroken gBroken GBroken
  have GMoved := ok_moved (P := l.prog) (w := w) (mg := mg) (base := base) (k := 0) FMoved FTake bTake gTake FOf bOf gOf FHad bHad gHad GHad FPlaces bPlaces gPlaces GPlaces m_len m_list m_range m_tuple
  have GRight := ok_right (P := l.prog) (w := w) (mg := mg) (base := base) (k := 0) sys FRight FFurther bFurther gFurther GFurther FComes bComes gComes GComes FMoved bMoved gMoved GMoved FTake bTake gTake FOf bOf gOf FHad bHad gHad GHad FBroken bBroken gBroken GBroken m_len m_range m_all m_repr
  exact ok_law (k := 0) FLaw FBox bBox gBox GBox FTake bTake gTake FGreat bGreat gGreat GGreat FRight bRight gRight GRight m_len m_min m_max m_range
end K70
open PySem PySem.W PyProof.Rows
set_option maxHeartbeats 0 in
theorem PySem.Challenge.cw_matchgift_k70_whole_what_comes_of_what_c_holds : PySem.Challenge.rw_matchgift_k70_whole_what_comes_of_what_c.Holds := by
  w_on; o_law; k_head; (case hw => w_witness2)
  k_fill
  refine MG.walkG (l := PySem.Challenge.rw_matchgift_k70_whole_what_comes_of_what_c) (n := 63) (k := 9) (x := "_law_script") (sp := K70.spLaw) rfl (by decide) rfl ⟨rfl, by decide, by decide⟩ (by decide +kernel) (fun w h Y => PySem.W.kIn_of Y) ?F (fun _ _ a ns hl _ hS => ⟨a, ns, rfl, hS, hl, fun _ => rfl⟩)
  case F =>
    intro w mg fa h KX G hmg
    refine' K70.all_mk KX G hmg ?aBox ?lBox ?cBox ?kBox ?aTake ?lTake ?cTake ?kTake ?aOf ?lOf ?cOf ?kOf ?aPlaces ?lPlaces ?cPlaces ?kPlaces ?aTens ?lTens ?cTens ?kTens ?aGreat ?lGreat ?cGreat ?kGreat ?aHad ?lHad ?cHad ?kHad ?aGcd ?lGcd ?cGcd ?kGcd ?aPow ?lPow ?cPow ?kPow ?aLeapt ?lLeapt ?cLeapt ?kLeapt ?aFurther ?lFurther ?cFurther ?kFurther ?aTwosIn ?lTwosIn ?cTwosIn ?kTwosIn ?aCommon ?lCommon ?cCommon ?kCommon ?aUnit ?lUnit ?cUnit ?kUnit ?aTwos ?lTwos ?cTwos ?kTwos ?aHfn ?lHfn ?cHfn ?kHfn ?aOddPart ?lOddPart ?cOddPart ?kOddPart ?aMeasure ?lMeasure ?cMeasure ?kMeasure ?aOddOnes ?lOddOnes ?cOddOnes ?kOddOnes ?aHolders ?lHolders ?cHolders ?kHolders ?aAsked ?lAsked ?cAsked ?kAsked ?aBroken ?lBroken ?cBroken ?kBroken ?aComes ?lComes ?cComes ?kComes ?aMoved ?lMoved ?cMoved ?kMoved ?aRight ?lRight ?cRight ?kRight ?aLaw ?lLaw ?cLaw ?kLaw ?z_abs ?z_all ?z_any ?z_enumerate ?z_int ?z_len ?z_list ?z_max ?z_min ?z_range ?z_repr ?z_sum ?z_tuple ?z_zip
    (case aBox => k_is); (case lBox => k_is); (case cBox => k_is); (case kBox => k_is); (case aTake => k_is); (case lTake => k_is); (case cTake => k_is); (case kTake => k_is); (case aOf => k_is); (case lOf => k_is); (case cOf => k_is); (case kOf => k_is); (case aPlaces => k_is); (case lPlaces => k_is); (case cPlaces => k_is); (case kPlaces => k_is); (case aTens => k_is); (case lTens => k_is); (case cTens => k_is); (case kTens => k_is); (case aGreat => k_is); (case lGreat => k_is); (case cGreat => k_is); (case kGreat => k_is); (case aHad => k_is); (case lHad => k_is); (case cHad => k_is); (case kHad => k_is); (case aGcd => k_is); (case lGcd => k_is); (case cGcd => k_is); (case kGcd => k_is); (case aPow => k_is); (case lPow => k_is); (case cPow => k_is); (case kPow => k_is); (case aLeapt => k_is); (case lLeapt => k_is); (case cLeapt => k_is); (case kLeapt => k_is); (case aFurther => k_is); (case lFurther => k_is); (case cFurther => k_is); (case kFurther => k_is); (case aTwosIn => k_is); (case lTwosIn => k_is); (case cTwosIn => k_is); (case kTwosIn => k_is); (case aCommon => k_is); (case lCommon => k_is); (case cCommon => k_is); (case kCommon => k_is); (case aUnit => k_is); (case lUnit => k_is); (case cUnit => k_is); (case kUnit => k_is); (case aTwos => k_is); (case lTwos => k_is); (case cTwos => k_is); (case kTwos => k_is); (case aHfn => k_is); (case lHfn => k_is); (case cHfn => k_is); (case kHfn => k_is); (case aOddPart => k_is); (case lOddPart => k_is); (case cOddPart => k_is); (case kOddPart => k_is); (case aMeasure => k_is); (case lMeasure => k_is); (case cMeasure => k_is); (case kMeasure => k_is); (case aOddOnes => k_is); (case lOddOnes => k_is); (case cOddOnes => k_is); (case kOddOnes => k_is); (case aHolders => k_is); (case lHolders => k_is); (case cHolders => k_is); (case kHolders => k_is); (case aAsked => k_is); (case lAsked => k_is); (case cAsked => k_is); (case kAsked => k_is); (case aBroken => k_is); (case lBroken => k_is); (case cBroken => k_is); (case kBroken => k_is); (case aComes => k_is); (case lComes => k_is); (case cComes => k_is); (case kComes => k_is); (case aMoved => k_is); (case lMoved => k_is); (case cMoved => k_is); (case kMoved => k_is); (case aRight => k_is); (case lRight => k_is); (case cRight => k_is); (case kRight => k_is); (case aLaw => k_is); (case lLaw => k_is); (case cLaw => k_is); (case kLaw => k_is); (case z_abs => k_is); (case z_all => k_is); (case z_any => k_is); (case z_enumerate => k_is); (case z_int => k_is); (case z_len => k_is); (case z_list => k_is); (case z_max => k_is); (case z_min => k_is); (case z_range => k_is); (case z_repr => k_is); (case z_sum => k_is); (case z_tuple => k_is); (case z_zip => k_is)
