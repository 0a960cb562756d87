import PyProof.Rows.All
import Wide.All
import OpenK.AllK
import Wide.FinOn
import PySem.Challenge.RW_matchgift_k56_whole_goals_met_open_lost
import HandS.ForMost
import HandS.IsInst
import HandS.TupAny
import HandS.TupMul
import HandS.Wide
import HandS.Flow
import HandS.RaiseMore
import PyProof.ReprRoads
import KE.GoesNew
import KE.KTupSum
import HandS.Walk
import HandS.WideBits
import PyProof.Rows.BitMore
import HandS.Zip
import HandS.Style
import HandS.Dict
import PyProof.Rows.TupDisplay
import KE.KDictDisplayH
import HandS.Steps
import HandS.Exc
import HandS.ExcOwn
import HandS.EndTab
import HandS.Nested
import KE.SortKeyHeap
import PyProof.TupleOfSeq
import HandS.ExcIs
import HandS.WordsExc
import HandS.Strs
import HandS.SetFor
import PyProof.SeqIndex
import KE.KIndexOf
import HandS.More
import HandS.WordsDict
import HandS.Sort
import HandS.Iter
import KE.KDictSum
import KE.KDictWalk
import HandS.Finally
import HandS.TupSets
import HandS.DictEq
set_option Elab.async false
set_option linter.all false
set_option maxRecDepth 100000
set_option maxHeartbeats 2000000
/-! MG: promises of defs that are called where no repr is under way, and repr of data by them. -/
namespace MG
open PySem PySem.Spec PyProof.Rows L2

structure FnG (P : Program) (w : World) (K : PySem.W.Frag) (mg : Str → Option Value) (base : Heap) (k : Nat)
    (f : Addr) (fd : FuncData) (ps : List Str) (sp : Sp) : Prop where
  len : ∀ vs H Q E, sp vs H Q E → vs.length = ps.length
  run : ∀ (A : Around) (outer : List Env) (s : Shared) (H : Hp) (args : Args) (us : List Value) (vs : List V) (Q : VK) (E : XK),
    A.guards = some [] → Room k A → Env0 P w K mg base A outer s H →
    BindsTo s fd args (ps.zip us) → Vals vs us → sp vs H Q E →
    codeAny (model P w) A (.call (.ref f) args) (CR CX0 outer P w H s Q E) s

section
variable {P : Program} {w : World} {K : PySem.W.Frag} {mg : Str → Option Value} {base : Heap}
theorem FnG.of {k : Nat} {f : Addr} {fd : FuncData} {ps : List Str} {sp : Sp}
    (F : FnOk P w K mg base CX0 k f fd ps sp) : FnG P w K mg base k f fd ps sp :=
  ⟨F.len, fun A outer s H args us vs Q E _ => F.run A outer s H args us vs Q E⟩

theorem okG {x qual : Str} {st : Stmt} {f : Addr} {fd : FuncData} {N ps : List Str} {k : Nat} {sp : Sp}
    (F : Fun K x qual st f fd) (S : FnScope N ps (defScope st))
    (hlen : ∀ vs H Q E, sp vs H Q E → vs.length = ps.length)
    (body : ∀ (cdv : Value) (A : Around) (outer : List Env) (s : Shared) (H : Hp) (vs : List V) (Q : VK) (E : XK),
      A.guards = some [] → Room k (A.deeper (envOfC qual (defScope st) s.heap.objs.size f cdv)) → sp vs H Q E →
      ∃ t, PSs (cxOf CX0 P w K mg base N qual (defScope st) f cdv A outer s H E).nox (defBody st) t ∧
        t { nx := fun _ H' => Q .non H', rt := Q } (start N vs) H) :
    FnG P w K mg base (k + 1) f fd ps sp := by
  obtain ⟨oc, od, kV, doc, pm, an, cdv, ct, osl, rfl, lk, hcd⟩ := F.ex
  refine ⟨hlen, ?_⟩
  intro A outer s H args us vs Q E gd room e0 bnd rel want
  have inK : K.In s.heap := e0.mod.kin.keeps (fun b o q => (e0.bs b o q).left)
  have noLim : s.heap.NoLimit := e0.mod.nolimit.keeps (fun b o q => (e0.bs b o q).left)
  refine codeAny_call_function room.depth (inK _ _ lk) rfl S.co S.gen rfl
    (PySem.W.codeRec_of inK hcd) (bnd _ _ _ _ ?_)
  refine wpAny_newFunctionEnv_cells S.kind ?_ ?_
  · rintro ⟨n, v⟩ hy
    rcases S.par n (List.of_mem_zip hy).1 with loc | cel
    · exact Or.inl loc
    · exact Or.inr ⟨cel, PySem.W.cellsFrom_some _ _ _ (Or.inl cel)⟩
  · intro env he s1 x
    subst he
    refine ⟨noLim.keeps x.toInCall.keep, codeAny_func ?_⟩
    obtain ⟨t, ht0, hq⟩ := body cdv A outer s H vs Q E gd (room.deeper _) want
    have ht := ht0.nox
    have I := inv_start (CX := CX0) (N := N) (qual := qual) (f := f) (cd := cdv) (E := E) S room.hd e0 (hlen _ _ _ _ want) rel x
    refine wpAny_mono (ht.run [] s1 (start N vs) H _ I hq) ?_ (fun _ _ z => z)
    intro fl s' hs
    cases fl with
    | ret u =>
      obtain ⟨v, σ', H', J, rv, q⟩ := hs
      exact ⟨v, H', J.os, J.bare, J.base, J.hok, rv, q⟩
    | next =>
      obtain ⟨σ', H', J, q⟩ := hs
      exact ⟨V.non, H', J.os, J.bare, J.base, J.hok, rfl, q⟩
    | brk =>
      obtain ⟨_, _, _, q⟩ := hs
      exact q.elim
    | cont =>
      obtain ⟨_, _, _, q⟩ := hs
      exact q.elim
end

section
variable {X : Cx} {k : Nat} {f : Addr} {fd : FuncData} {ps : List Str} {sp : Sp} {E : XK} {x : Str} {p pos : Pos}
  {e : Expr} {es : List Expr} {t : TA}
/-- f(e, ..) of such a def -/
theorem pe_callG (F : FnG X.prog X.w X.K X.mg X.base k f fd ps sp) (gd : X.A.guards = some []) (hr : Room k X.A) (hg : Gl X x)
    (hm : X.mg x = some (.ref f)) (hk : PySem.W.keepIn X.K (.ref f) = true) (hb : Binds X.K fd ps []) (ha : PA X (e :: es) t)
    (hdb : (x == ("__debug__" : Str)) = false := by decide)
    (he : starEach (e :: es) X.env = (false, eval e X.env) :: starEach es X.env := by rfl)
    (hpl : (backTo pos (starEach es X.env)).any (·.1) = false := by rfl) :
    PE X (.Call (.Name x p) (e :: es) [] pos) (tCall sp [] E t) := by
  constructor
  intro pins s σ H Q I h
  refine wpAny_Call_Name_kw (ld_glob I hg hm ?_ hdb)
  refine PySem.W.callWith_K (h₀ := X.base) I.ok.mod.kin hk ?_ he hpl
  refine thn (ha.run pos pins s σ H _ I h) ?_
  rintro us s1 ⟨vs, H1, I1, r, q⟩
  refine ⟨I1.kIn, ?_⟩
  have q' : sp (vs ++ []) H1 Q E := q
  rw [List.append_nil] at q'
  have hl : us.length = ps.length := by
    rw [← r.length]
    exact F.len _ _ _ _ q'
  have hb' := hb s1 us I1.kIn (by simpa using hl)
  rw [List.append_nil] at hb'
  refine wpAny_call (codeAny_mono (F.run X.A X.stack s1 H1 ⟨us, []⟩ us vs Q E gd hr I1.env0 hb' r q') ?_)
  intro res s' hq
  cases res with
  | error e => exact False.elim hq
  | ok fl =>
    cases fl with
    | ret u => exact I1.after hq
    | next => exact False.elim hq
    | brk => exact False.elim hq
    | cont => exact False.elim hq
end
end MG

namespace MG
open PySem PySem.Spec PyProof.Rows L2

def SysD (h : Heap) : Prop := ∃ mm, h.Ns sysModules mm
theorem lawG {P : Program} {w : World} {K : PySem.W.Frag} {mg mb : Str → Option Value} {k : Nat} {fa a : Addr} {fd : FuncData} {x : Str}
    {sp : Sp} {s₁ : Shared} {vs : List Value} {ns : List Int}
    (KX : K.In s₁.heap) (hns : s₁.heap.Ns mainGlobals mg) (hb : s₁.heap.Ns builtinsNs mb)
    (hbb : ∀ x : Str, x ≠ "__name__" → mb x = bootBuiltins x) (hlim : s₁.heap.NoLimit) (hsys : SysD s₁.heap) (hg : s₁.gens = #[])
    (ha : s₁.heap.get? a = some { cls := .type "list", data := .seq vs.toArray }) (hi : IntsAre vs ns)
    (hl : ns.length ≤ sizeLine) (hr : Room k callerA)
    (F : ∀ base : Heap, K.In base → base.Ns mainGlobals mg → SysD base → FnG P w K mg base k fa fd [x] sp)
    (hbind : ∀ (s : Shared) (u : Value), BindsTo s fd ⟨[u], []⟩ [(x, u)])
    (hsp : ∀ H : Hp, Only H → SqL K H a (ns.map V.int) → sp [.ref a] H (fun v _ => v = .bl true) fun _ _ _ => False) :
    codeAny (model P w) callerA (.call (.ref fa) ⟨[.ref a], []⟩)
      (fun r s' => r = .ok (.ret (.bool true)) ∧ OldK s₁.heap s'.heap ∧ s'.os = s₁.os ∧ AllBare s'.gens) s₁ := by
  have rels := vals_ints hi
  have sizes := hi.length
  have go : ∀ H : Hp, Only H → SqL K H a (ns.map V.int) → HOk P w H s₁.heap → (∀ b, H b ≠ none → b = a) →
      (H a ≠ none → K.lookup a = none) →
      codeAny (model P w) callerA (.call (.ref fa) ⟨[.ref a], []⟩)
        (fun r s' => r = .ok (.ret (.bool true)) ∧ OldK s₁.heap s'.heap ∧ s'.os = s₁.os ∧ AllBare s'.gens) s₁ := by
    intro H only sq ok justA noK
    have dictFree : ∀ {b : Addr} {o : Obj} {es : Array DictEntry} {ep : Nat}, s₁.heap.get? b = some o → o.data = .dict es ep → H b = none := by
      intro b o es ep hget hdat
      cases hH : H b with
      | none => rfl
      | some u =>
        obtain rfl : b = a := justA b (by rw [hH]; exact fun z => nomatch z)
        rw [ha] at hget
        cases hget
        exact (nomatch (show Data.seq vs.toArray _ = Data.dict es ep from hdat))
    have nsHid : ∀ {b : Addr} {m : Str → Option Value}, s₁.heap.Ns b m → (hidT s₁.heap H).Ns b m := by
      rintro b m ⟨o, es, ep, h1, h2, h3⟩
      exact ⟨o, es, ep, hidT_get h1 (dictFree h1 h2), h2, h3⟩
    have kHid : K.In (hidT s₁.heap H) := by
      intro b o look
      refine hidT_get (KX b o look) ?_
      cases hH : H b with
      | none => rfl
      | some u =>
        obtain rfl : b = a := justA b (by rw [hH]; exact fun z => nomatch z)
        have z := noK (by rw [hH]; exact fun z => nomatch z)
        rw [z] at look
        cases look
    have modl : Mod K mg (hidT s₁.heap H) := by
      obtain ⟨mc, l1, l2⟩ := hlim
      exact ⟨kHid, nsHid hns, ⟨mb, nsHid hb, hbb⟩, ⟨mc, nsHid l1, l2⟩⟩
    have e0 : Env0 P w K mg (hidT s₁.heap H) callerA [] s₁ H :=
      { frames := rfl
        mod := modl
        bs := fun b o q => of_hidT q
        bsz := Nat.le_of_eq (hidT_size _ _)
        funs := trivial
        frf := fun b hb => absurd (show b ∈ ([] : List Addr) from hb) List.not_mem_nil
        hok := ok
        bare := .of_eq hg }
    refine codeAny_mono ((F _ kHid (nsHid hns) (let ⟨mm, q⟩ := hsys; ⟨mm, nsHid q⟩)).run callerA [] s₁ H ⟨[.ref a], []⟩ [.ref a] [.ref a] _ _ rfl hr e0
      (hbind s₁ (.ref a)) (.cons rfl .nil) (hsp H only sq)) ?_
    intro r s' h
    cases r with
    | error e => exact False.elim h
    | ok fl =>
      cases fl with
      | next => exact False.elim h
      | brk => exact False.elim h
      | cont => exact False.elim h
      | ret u =>
        obtain ⟨v, H', hos, hbare, un, ok', rel, q⟩ := h
        obtain rfl : v = .bl true := q
        obtain rfl : u = Value.bool true := rel
        refine ⟨rfl, OldK.of_keep ?_, hos, hbare⟩
        intro b o hget
        rcases only b with hn | ⟨ob, xs, hf⟩
        · exact un.keep b o hget hn (fun z => absurd (show b ∈ ([] : List Addr) from z) List.not_mem_nil) List.not_mem_nil
        · have q1 := (ok b _ hf).1
          have q2 := (ok' b _ (un.frzs b ob _ hf)).1
          rw [hget] at q1
          cases q1
          exact q2
  cases hk : K.lookup a with
  | none =>
    let ob : Obj := { cls := .type "list", data := .seq vs.toArray }
    let H : Hp := fun b => if b = a then some (.frz ob (.lst (ns.map V.int))) else none
    have atA : H a = some (.frz ob (.lst (ns.map V.int))) := if_pos rfl
    have off : ∀ b, b ≠ a → H b = none := fun b hb => if_neg hb
    refine go H ?_ (.inl (.inr ⟨ob, atA⟩)) ?_ ?_ (fun _ => hk)
    · intro b
      by_cases hb : b = a
      · subst hb; exact .inr ⟨_, _, atA⟩
      · exact .inl (off b hb)
    · intro b u z
      by_cases hb : b = a
      · subst hb
        rw [atA] at z
        cases z
        exact ⟨ha, by rw [List.length_map]; exact hl, vs, _, rels, ha⟩
      · rw [off b hb] at z
        cases z
    · intro b z
      by_cases hb : b = a
      · exact hb
      · exact absurd (off b hb) z
  | some o =>
    have e := KX a o hk
    rw [ha] at e
    cases e
    exact go (fun _ => none) (fun _ => .inl rfl)
      (.inr ⟨_, vs.toArray, _, hk, rfl, rfl, rfl, by rw [List.size_toArray, sizes]; exact hl, by simpa using rels⟩)
      (fun b u z => nomatch (show (none : Option HO) = some u from z)) (fun b z => absurd rfl z) (fun z => absurd rfl z)

theorem walkG {l : PySem.W.OpenLaw} {n k : Nat} {q : Program} {loose : List Str} {XP : (Str → Option Value) → Heap → Prop}
    {YP : World → Heap → Prop} {d : DefRec} {K : Params → PySem.W.Frag} {sp : PySem.W.Frag → Sp} {x : Str}
    (hn : l.most = some n) (hn2 : n ≤ sizeLine) (hdf : d.params.defaults = []) (hr : Room k callerA) (hq : importsNone q = true)
    (hY : ∀ (w : World) (h : Heap), YP w h → (K w.params).In h)
    (F : ∀ (w : World) (mg : Str → Option Value) (fa : Addr) (h : Heap), (K w.params).In h → h.Ns mainGlobals mg → mg d.name = some (.ref fa) →
      ∃ fd : FuncData, (∀ (s : Shared) (u : Value), BindsTo s fd ⟨[u], []⟩ [(x, u)]) ∧
        ∀ base : Heap, (K w.params).In base → base.Ns mainGlobals mg → SysD base → FnG l.prog w (K w.params) mg base k fa fd [x] (sp (K w.params)))
    (hsp : ∀ (K : PySem.W.Frag) (H : Hp) (a : Addr) (ns : List Int), ns.length ≤ n → Only H → SqL K H a (ns.map V.int) →
      sp K [.ref a] H (fun v _ => v = .bl true) fun _ _ _ => False) :
    PySem.W.WalkO q loose XP YP l.row.toRowW d [] (fun f vs => PySem.call f vs) := by
  refine Att.attach_call hn hdf ?_
  intro w s₀ s₁ mg mb fa o pm cd doc a vs ns G Y _ _ _ hmg hobj hints hlen hg
  have KX := hY w _ Y
  obtain ⟨fd, hbd, hF⟩ := F w mg fa _ KX G.T.g hmg
  exact lawG KX G.T.g G.T.b G.T.builtins G.T.nolimit (let ⟨mm, q, _⟩ := (G.T.seer hq).mods; ⟨mm, q⟩) hg hobj hints (Nat.le_trans hlen hn2) hr hF hbd
    (fun H hO hS => hsp _ H a ns hlen hO hS)
end MG

namespace MG
open PySem PySem.Spec PyProof.Rows L2

/-- behind enumerate(v): v's iterator, and who counts beside it -/
abbrev counts (g : Heap) (o : Obj) : Heap :=
  (g.push o).push { cls := .type "enumerate", data := .fields #[.none, .bool false, .ref g.objs.size, rawInt 0, .none, .none] }
theorem counts_new {v : Value} {o : Obj} {S : Heap → Prop} (B : Begins v o S) :
    PySem.Meets (Builtin.«enumerate.__new__» ⟨[.type "enumerate", v], []⟩) (fun _ R s =>
      S s.heap ∧ R (.ok (.ret (.ref (s.heap.push o).objs.size))) { s with heap := counts s.heap o }) := by
  refine .of_wp fun prog w A R s want => ?_
  obtain ⟨g, gens, drawn, tk, os⟩ := s
  have own := sub_enumerate
  have begun : ∀ {A' : Around} {Q E' : Value → Shared → Prop}, Q (.ref g.objs.size) ⟨g.push o, gens, drawn, tk, os⟩ →
      wpAny (model prog w) A' (pyIter v) Q E' ⟨g, gens, drawn, tk, os⟩ := fun q => B.iter _ _ _ _ _ _ want.1 q
  wp_walk using begun
  refine wpAny_stack_any fun top => wpAny_pure ?_
  split
  case h_1 c _ _ _ _ _ =>
    cases c == Value.type "enumerate" <;> (wp_walk using begun; exact ⟨_, rfl, want.2⟩)
  case h_2 =>
    wp_walk using begun
    exact ⟨_, rfl, want.2⟩
theorem counts_call {prog : Program} {w : World} {A : Around} {E : Value → Shared → Prop} {s : Shared} {v : Value} {o : Obj} {S : Heap → Prop}
    {Q : Value → Shared → Prop} (B : Begins v o S) (ready : S s.heap)
    (next : ∀ g, IsEnum g (s.heap.objs.size + 1) s.heap.objs.size 0 .none → g.get? s.heap.objs.size = some o →
      (∀ b u, s.heap.get? b = some u → g.get? b = some u) → Q (.ref (s.heap.objs.size + 1)) { s with heap := g }) :
    wpAny (model prog w) A (call (.type "enumerate") [v]) Q E s := by
  have up : (s.heap.push o).objs.size = s.heap.objs.size + 1 := Heap.size_push ..
  have first : (counts s.heap o).get? s.heap.objs.size = some o := Heap.get?_push_of_some _ (Heap.get?_push_size _ B.free)
  have second : (counts s.heap o).get? (s.heap.push o).objs.size = _ := Heap.get?_push_size _ rfl
  have rest : ∀ b u, s.heap.get? b = some u → (counts s.heap o).get? b = some u := fun _ _ at_ =>
    Heap.get?_push_of_some _ (Heap.get?_push_of_some _ at_)
  rw [up] at second
  refine callType_new F.called_enumerate (by decide) (F.typeCall_enumerate_1 v) (F.newCall_enumerate_1 v)
    (fun obj => F.args_object_init_2 obj v) F.entry_enumerate_new (counts_new B) ⟨ready, ?_⟩
  rw [up]
  exact ⟨⟨_, second, rfl⟩, next _ second first rest⟩
/-! ### walks that tell a new tuple each time -/
theorem not_tuple {g : Heap} {b c : Addr} {o : Obj} {items : Array Value} (t : IsTup g b items) (at_ : g.get? c = some o) (cls : o.cls ≠ .type "tuple") : b ≠ c := by
  obtain ⟨u, here, k, _⟩ := t
  intro e
  rw [e, at_] at here
  exact cls (by rw [Option.some.inj here]; exact k)
section told
variable {X : Cx} {pins : List (Addr × Obj)} {σ : L2.St} {H : Hp} {s : Shared} {ours : List Addr} {g : Heap} {tk : Nat}
/-- behind a walk's step: the tuple at T is new, our own objects are still nobody's -/
theorem told_new {T : Addr} {xs : List V} {us : List Value} (I : Inv X pins σ H s) (own : ∀ b ∈ ours, FpOk X pins H b)
    (live : ∀ b ∈ ours, ∃ o, s.heap.get? b = some o) (off : ∀ b o, b ∉ ours → s.heap.get? b = some o → g.get? b = some o)
    (new : s.heap.objs.size ≤ T) (made : IsTup g T us.toArray) (rel : Vals xs us) (few : xs.length ≤ sizeLine) :
    Inv X pins σ (upd H T (.tup xs)) { s with heap := g, toks := tk } ∧ H T = none ∧ ∀ b ∈ ours, upd H T (.tup xs) b = none :=
  ⟨I.turnedNew off own new ⟨few, us, rel, made⟩, I.hok.fresh new, fun b hb => by
    obtain ⟨o, at_⟩ := live b hb
    rw [upd_ne (Nat.ne_of_lt (Nat.lt_of_lt_of_le (Heap.lt_size at_) new))]
    exact (own b hb).1⟩
end told

/-! ### enumerate of a tuple -/
def IteT (K : PySem.W.Frag) (a : Addr) : It :=
  ⟨fun i H => ∃ (xs : List V) (x : V), SqT K H a xs ∧ xs[i]? = some x,
   fun i H v H' => ∃ T x, v = .ref T ∧ H T = none ∧ H' = upd H T (.tup [.int (i : Nat), x]) ∧ ∀ xs, SqT K H a xs → xs[i]? = some x,
   fun i H => ∃ xs : List V, SqT K H a xs ∧ xs.length = i⟩
/-- who counts at e, over the iterator at t of the tuple at a, i told -/
def EnT (a e t : Addr) (i : Nat) (g : Heap) : Prop := (∃ old, IsEnum g e t (i : Nat) old) ∧ g.IsTupleIter t a i ∧ e ≠ t
theorem EnT.live {a e t : Addr} {i : Nat} {g : Heap} (st : EnT a e t i g) : ∀ b ∈ [e, t], ∃ o, g.get? b = some o ∧ ∀ v, o.data ≠ .cell v := by
  obtain ⟨⟨old, he⟩, ⟨o, ho, _, dat⟩, _⟩ := st
  intro b hb
  cases hb with
  | head => exact ⟨_, he, fun v z => nomatch z⟩
  | tail _ hb =>
    obtain rfl := List.mem_singleton.mp hb
    exact ⟨o, ho, fun v z => nomatch (show Data.fields _ = Data.cell v from dat.symm.trans z)⟩
theorem turn_enumT {P : Program} {w : World} {K : PySem.W.Frag} {elts : List Expr} {kk : Nat} {tpos : Pos} (a e t : Addr) :
    Turn P w K (.Tuple elts kk tpos) (IteT K a) [e, t] e (EnT a e t) where
  mem := List.mem_cons_self
  obj := fun _ _ st => st.live
  keep := fun i g g' ⟨⟨old, he⟩, ht, ne⟩ k => ⟨⟨old, k e List.mem_cons_self _ he⟩, ht.at fun o => k t (List.mem_cons_of_mem _ List.mem_cons_self) o, ne⟩
  self := fun A i s Q E st q => by
    obtain ⟨⟨old, he⟩, _⟩ := st
    exact wpAny_pyIter_enum he q
  item := by
    intro X hP hw hK calm i pins s σ H E I own st go
    subst hP hw hK
    obtain ⟨xs, x, hq, hx⟩ := go
    obtain ⟨us, rel, tup, _⟩ := I.tuple hq
    obtain ⟨u, hu, ru⟩ := rel.get hx
    have live := st.live
    obtain ⟨⟨old, he⟩, ht, ne⟩ := st
    have at_ : a ≠ t := by
      obtain ⟨o, ho, cls, _⟩ := id ht
      exact not_tuple tup ho (by rw [cls]; decide)
    have ae : e ∉ [t, a] := by
      intro z
      cases z with
      | head => exact ne rfl
      | tail _ z => exact not_tuple tup he (by show Value.type "enumerate" ≠ .type "tuple"; decide) (List.mem_singleton.mp z).symm
    have walk := GoesN.enumFrom (elts := elts) (x1 := kk) (pos := tpos) 0
      (Draws.tuple (prog := X.prog) (w := X.w) (A := X.A.in1) (I.ok.hd calm) t a at_ us.toArray) e ne ae List.mem_cons_self
    refine walk.goes i s (fun v s2 => ∃ y H', Inv X pins σ H' s2 ∧ RelV y v ∧ (IteT X.K a).yld i H y H' ∧ EnT a e t (i + 1) s2.heap ∧ ∀ b ∈ [e, t], H' b = none) E
      ?_ ⟨⟨old, by rw [Int.zero_add]; exact he⟩, ht, tup⟩ ?_
    · rw [List.size_toArray]
      exact (List.getElem?_eq_some_iff.mp hu).1
    · rintro v g tk ⟨T, tok, y, rfl, new, hy, made⟩ ⟨⟨old2, he2⟩, ht2, _⟩ off _
      obtain rfl : y = u := Option.some.inj (by rw [← hu, ← hy, List.getElem?_toArray])
      rw [Int.zero_add] at made he2
      obtain ⟨J, free, none_⟩ := told_new (tk := tk) (xs := [.int (i : Nat), x]) (us := [.int i tok, y]) I own (fun b hb => let ⟨o, q, _⟩ := live b hb; ⟨o, q⟩) off new made
        (.cons ⟨tok, rfl⟩ (.cons ru .nil)) (by show 2 ≤ sizeLine; decide)
      exact ⟨.ref T, _, J, rfl, ⟨T, x, rfl, free, rfl, fun ys hy => by rw [I.tuple_inj hy hq]; exact hx⟩, ⟨⟨old2, he2⟩, ht2, ne⟩, none_⟩
  done := by
    intro X hP hw hK calm i pins s σ H E I own st go
    subst hP hw hK
    obtain ⟨xs, hq, rfl⟩ := go
    obtain ⟨us, rel, tup, _⟩ := I.tuple hq
    obtain ⟨⟨old, he⟩, ht, ne⟩ := st
    have at_ : a ≠ t := by
      obtain ⟨o, ho, cls, _⟩ := id ht
      exact not_tuple tup ho (by rw [cls]; decide)
    have ae : e ∉ [t, a] := by
      intro z
      cases z with
      | head => exact ne rfl
      | tail _ z => exact not_tuple tup he (by show Value.type "enumerate" ≠ .type "tuple"; decide) (List.mem_singleton.mp z).symm
    have walk := GoesN.enumFrom (elts := elts) (x1 := kk) (pos := tpos) 0
      (Draws.tuple (prog := X.prog) (w := X.w) (A := X.A.in1) (I.ok.hd calm) t a at_ us.toArray) e ne ae List.mem_cons_self
    have len : us.toArray.size = xs.length := by rw [List.size_toArray, rel.length]
    refine walk.stops s (fun s' => Inv X pins σ H s') E (by rw [len]; exact ⟨⟨old, by rw [Int.zero_add]; exact he⟩, ht, tup⟩) fun g tk off _ => I.turnedL (t' := tk) off own

def iEnumT (K : PySem.W.Frag) (ta : TA) : TI := fun σ H R => ta σ H fun vs H1 => ∃ a xs, vs = [.ref a] ∧ SqT K H1 a xs ∧ R (IteT K a) H1
theorem pi_enumT {X : Cx} {e : Expr} {ta : TA} {p pos tpos : Pos} {elts : List Expr} {kk : Nat} (hg : Gl X "enumerate")
    (hm : X.mg "enumerate" = none) (ha : PA X [e] ta) (hs : starEach [e] X.env = [(false, eval e X.env)] := by rfl) :
    PI X (.Tuple elts kk tpos) (.Call (.Name "enumerate" p) [e] [] pos) (iEnumT X.K ta) := by
  refine ⟨fun pins s σ H R I want => Call_ (ld_blt I hg hm boot_enumerate (PyProof.Rows.callWith_type1 (thn (ha.run pos pins s σ H _ I want) ?_) hs rfl))⟩
  rintro us s1 ⟨vs, H1, I1, rel, a, xs, rfl, hq, go⟩
  obtain rfl := rel.ref1
  obtain ⟨its, _, tup, _⟩ := I1.tuple hq
  refine counts_call (begins_tuple a its.toArray) tup fun g he ht up => wpAny_pyIter_enum he ?_
  have new : ∀ b ∈ [s1.heap.objs.size + 1, s1.heap.objs.size], s1.heap.objs.size ≤ b := by
    intro b hb
    simp only [List.mem_cons, List.not_mem_nil, or_false] at hb
    omega
  exact ⟨_, _, _, _, H1, rfl, I1.kept (t' := s1.toks) up, turn_enumT a (s1.heap.objs.size + 1) s1.heap.objs.size,
    ⟨⟨_, he⟩, ⟨_, ht, rfl, rfl⟩, Nat.succ_ne_self _⟩, fun b hb => I1.fpOk (new b hb) (I1.hok.fresh (new b hb)), go⟩
theorem walk_enumT {K : PySem.W.Frag} {a : Addr} {xs : List V} :
    Walk (IteT K a) xs.length (fun H => SqT K H a xs) (YPair (fun i => some (.int (i : Nat))) (fun i => xs[i]?)) := by
  refine ⟨fun i H lt q => ⟨xs, xs[i], q, List.getElem?_eq_getElem lt⟩, fun H q => ⟨xs, q, rfl⟩, ?_⟩
  rintro i H v H' _ q ⟨T, x, e, free, next, is⟩
  exact ⟨T, .int (i : Nat), x, e, free, next, rfl, is xs q⟩

/-! ### sum of a tuple of whole numbers -/
theorem sumT {X : Cx} (hc : X.calm = true) : CallR X (.builtin "sum") (fun vs H Q => ∃ (a : Addr) (ns : List Int),
    vs = [V.ref a] ∧ SqT X.K H a (ns.map V.int) ∧ Q (.int ns.sum) H) := by
  rintro pins s σ H xs us Q I r ⟨a, ns, rfl, hq, q⟩
  obtain rfl := r.ref1
  obtain ⟨its, rv, p, hz⟩ := I.tuple hq
  have hi : IntsAre its ns := rv.ints
  obtain ⟨ys, hy⟩ := hi.allInts.items
  have hn : numsOf its.toArray.toList = ns := by
    rw [show its.toArray.toList = its from rfl, hi.numsOf]
  have p' : s.heap.IsTuple a its.toArray := p
  rw [hy] at p' hn
  rw [nums_intItems] at hn
  refine PySem.W.ktm_sumG (I.ok.hd hc) p' ?_
  intro h' tk t' hk
  have e : preSum (numAt ys) ys.size = ns.sum := by
    rw [preSum_eq, List.take_of_length_le (by simp), hn]
  rw [e]
  exact ⟨.int ns.sum, H, I.kept hk, ⟨t', rfl⟩, q⟩

/-! ### a text so many times -/
def repText (z : Str) (n : Nat) : Str := ⟨(List.replicate n z.cps).foldl (· ++ ·) #[]⟩
theorem repS {X : Cx} : OpR X (binaryOp .Mult) (fun x y H Q => ∃ (z : Str) (n : Int), x = .str z ∧ y = .int n ∧ 2 ≤ n ∧ n ≤ 1000 ∧
    z.length = 1 ∧ (repText z n.toNat).length ≤ sizeLine ∧ Q (.str (repText z n.toNat)) H) := by
  rintro pins s σ H x y v u Q I rx ry ⟨z, n, rfl, rfl, h1, h2, hz, hs, q⟩
  obtain ⟨t, rfl⟩ := rx
  obtain ⟨t2, rfl⟩ := ry
  have c1 : ¬ n < 1 := by omega
  have c2 : (n == 1 || z.length == 0) = false := by
    rw [hz, show (n == 1) = false from beq_eq_false_iff_ne.mpr (by omega)]
    rfl
  refine PySem.P.mul_str ?_ ?_ ?_ ?_
  · rw [decide_eq_false (show ¬ n < -(2 ^ 63 : Int) by omega), decide_eq_false (show ¬ n ≥ 2 ^ 63 by omega)]
    rfl
  · intro _ _
    rw [hz]
    have : (1 : Int) ≤ (2 ^ 63 - 1) / n := by
      refine (Int.le_ediv_iff_mul_le (by omega)).mpr ?_
      omega
    omega
  · intro _ _
    show decide (z.length * n.toNat > sizeLine) = false
    rw [hz]
    refine decide_eq_false ?_
    rw [sizeLine_eq]
    omega
  · rw [if_neg c1, if_neg (by rw [c2]; exact Bool.false_ne_true)]
    exact ⟨hs, .str _, H, I.tok _, ⟨_, rfl⟩, q⟩

/-! ### a tuple so many times, once and never, too -/
theorem mulT_same (l : Addr) (items : Array Value) (n : Nat) (dd : Option Addr) (sl : Array (Option Value)) (x : Int) (u : Tok)
    (c1 : (items.isEmpty || x == 1) = true) (c0 : (decide (x < -(2 ^ 63)) || decide (x ≥ 2 ^ 63)) = false) :
    Meets (Builtin.«tuple.__mul__» ⟨[.ref l, .int x u], []⟩) (fun _ R s => s.heap.get? l = some { cls := .type "tuple", dict := dd, data := .seq items n, slots := sl } ∧
      R (.ok (.ret (Value.ref l))) s) :=
  .of_wp fun prog w A R s h => by
    obtain ⟨hp, g, d, tk, os⟩ := s
    obtain ⟨hl, h⟩ := h
    have f1 := AutoSeq1.idx_int
    wp_walk using AutoSeq1.wpAny_loadPart' hl
    repeat (first
      | (refine wpAny_ite_false (decide_eq_false (by rw [c0]; exact Bool.false_ne_true)) ?_; wp_walk using AutoSeq1.wpAny_loadPart' hl)
      | (refine wpAny_ite_true (decide_eq_true (by rw [c1])) ?_; wp_walk using AutoSeq1.wpAny_loadPart' hl))
    exact ⟨_, rfl, h⟩
end MG

namespace MG
open PySem PySem.Spec PyProof.Rows L2

theorem mulT_none (l : Addr) (items : Array Value) (n : Nat) (dd : Option Addr) (sl : Array (Option Value)) (u : Tok)
    (c1 : items.isEmpty = false) :
    Meets (Builtin.«tuple.__mul__» ⟨[.ref l, .int 0 u], []⟩) (fun _ R s =>
      s.heap.get? l = some { cls := .type "tuple", dict := dd, data := .seq items n, slots := sl } ∧
      R (.ok (.ret (Value.ref s.heap.objs.size))) { s with heap := s.heap.push { cls := Value.type "tuple", data := Data.seq #[] }, toks := s.toks }) :=
  .of_wp fun prog w A R s h => by
    obtain ⟨hp, g, d, tk, os⟩ := s
    obtain ⟨hl, h⟩ := h
    have f1 := AutoSeq1.idx_int
    have c2 : (items.isEmpty || (0 : Int) == 1) = false := by rw [c1]; rfl
    have c3 : (decide ((0 : Int) ≤ 0) || items.isEmpty) = true := rfl
    wp_walk using AutoSeq1.wpAny_loadPart' hl
    repeat (first
      | (refine wpAny_ite_false (decide_eq_false (by rw [c2]; exact Bool.false_ne_true)) ?_; wp_walk using AutoSeq1.wpAny_loadPart' hl)
      | (refine wpAny_ite_true (decide_eq_true (by rw [c3])) ?_; wp_walk using AutoSeq1.wpAny_loadPart' hl))
    exact ⟨_, rfl, h⟩

def rRepA (K : PySem.W.Frag) : R2 := fun x y H Q => ∃ l k xs, x = .ref l ∧ y = .int k ∧ SqT K H l xs ∧ xs ≠ [] ∧ 0 ≤ k ∧ k ≤ 1000 ∧
  xs.length ≤ 1000 ∧ (k = 1 → Q (.ref l) H) ∧ (k ≠ 1 → ∀ p, H p = none → Q (.ref p) (upd H p (.tup (List.replicate k.toNat xs).flatten)))
theorem op_repA {X : Cx} : OpR X (binaryOp .Mult) (rRepA X.K) := by
  rintro pins s σ H x y v u Q I rx ry ⟨l, k, xs, rfl, rfl, hT, hne, h1, h2, hz, q1, q2⟩
  by_cases hk : 2 ≤ k
  · exact op_repT pins s σ H _ _ v u Q I rx ry ⟨l, k, xs, rfl, rfl, hT, hne, hk, h2, hz, q2 (by omega)⟩
  · cases rx
    obtain ⟨t, rfl⟩ := ry
    obtain ⟨its, r, ⟨⟨cls, dd, data, sl⟩, ho, hc, n, hd⟩, hs⟩ := I.tuple hT
    simp only at hc hd
    subst hc hd
    have hi : its.toArray.isEmpty = false := by
      cases its with
      | nil =>
        have := r.length
        exact absurd (List.eq_nil_of_length_eq_zero this) hne
      | cons a b => rfl
    have ty : ∀ s' : Shared, s'.TypeIs (.int k t) "int" := fun s' => typeIs_int s' k t
    by_cases hk1 : k = 1
    · refine wpAny_binaryOp_repeat_ref (T := "tuple") (U := "int") (by decide) ⟨_, ho, rfl⟩ ty noFill_tuple_mul F.fills_int_mul
        F.slot_int_rmul repeat_tuple F.slot_int_index.lookup ?_
      refine call_meets F.slot_int_rmul (typeIs_int s k t) F.entry_int_rmul (F.args_int_rmul_2 _ _)
        (int_rmul_tuple k t l its.toArray n dd sl) ⟨ho, rfl, ⟨_, ho, rfl⟩, ?_⟩
      refine call_meets F.slot_tuple_mul ⟨_, ho, rfl⟩ F.entry_tuple_mul (F.args_tuple_mul_2 _ _)
        (mulT_same l its.toArray n dd sl k t (by rw [hk1, hi]; rfl) ?_) ⟨ho, ?_⟩
      · rw [decide_eq_false (show ¬ k < -(2 ^ 63 : Int) by omega), decide_eq_false (show ¬ k ≥ 2 ^ 63 by omega)]
        rfl
      · exact ⟨.ref l, H, I, rfl, q1 hk1⟩
    · have hk0 : k = 0 := by omega
      subst hk0
      refine wpAny_binaryOp_repeat_ref (T := "tuple") (U := "int") (by decide) ⟨_, ho, rfl⟩ ty noFill_tuple_mul F.fills_int_mul
        F.slot_int_rmul repeat_tuple F.slot_int_index.lookup ?_
      refine call_meets F.slot_int_rmul (typeIs_int s 0 t) F.entry_int_rmul (F.args_int_rmul_2 _ _)
        (int_rmul_tuple 0 t l its.toArray n dd sl) ⟨ho, rfl, ⟨_, ho, rfl⟩, ?_⟩
      refine call_meets F.slot_tuple_mul ⟨_, ho, rfl⟩ F.entry_tuple_mul (F.args_tuple_mul_2 _ _)
        (mulT_none l its.toArray n dd sl t hi) ⟨ho, ?_⟩
      refine ⟨.ref s.heap.objs.size, _, I.laid (t' := s.toks) (o := .tup []) (fun b ob q => Heap.get?_push_of_some _ q)
        (Nat.le_refl _) ?_, rfl, q2 hk1 _ (I.hok.fresh (Nat.le_refl _))⟩
      exact ⟨Nat.zero_le _, [], .nil, IsTup.new _ _⟩

/-! ### data: None, truths, whole numbers, texts, lists, tuples, dicts with text keys -/
def kD : Key → PyData
  | .inl i => .int i
  | .inr x => .str x
mutual
inductive Dd (H : Hp) : V → PyData → Prop
  | non : Dd H .non .none
  | bl (b : Bool) : Dd H (.bl b) (.bool b)
  | int (i : Int) : Dd H (.int i) (.int i)
  | str (x : Str) : Dd H (.str x) (.str x)
  | lst {a : Addr} {xs : List V} {ds : List PyData} : H a = some (.lst xs) → DdAll H xs ds → Dd H (.ref a) (.list ds)
  | tup {a : Addr} {xs : List V} {ds : List PyData} : H a = some (.tup xs) → DdAll H xs ds → Dd H (.ref a) (.tuple ds)
  | dic {a : Addr} {kvs : List (Key × V)} {ds : List PyData} : H a = some (.dK kvs) → DdAll H (kvs.map (·.2)) ds →
      Dd H (.ref a) (.dict ((kvs.map fun p => kD p.1).zip ds))
inductive DdAll (H : Hp) : List V → List PyData → Prop
  | nil : DdAll H [] []
  | cons {v : V} {vs : List V} {d : PyData} {ds : List PyData} : Dd H v d → DdAll H vs ds → DdAll H (v :: vs) (d :: ds)
end
theorem DdAll.length {H : Hp} : ∀ {vs : List V} {ds : List PyData}, DdAll H vs ds → ds.length = vs.length
  | [], _, h => by cases h; rfl
  | v :: vs, _, h => by
    cases h with
    | cons _ t => rw [List.length_cons, List.length_cons, t.length]

mutual
theorem Dd.same {H H' : Hp} (s : Same H H') : ∀ {v : V} {d : PyData}, Dd H v d → Dd H' v d
  | _, _, .non => .non
  | _, _, .bl b => .bl b
  | _, _, .int i => .int i
  | _, _, .str x => .str x
  | _, _, .lst e r => .lst (s _ _ e) (DdAll.same s r)
  | _, _, .tup e r => .tup (s _ _ e) (DdAll.same s r)
  | _, _, .dic e r => .dic (s _ _ e) (DdAll.same s r)
theorem DdAll.same {H H' : Hp} (s : Same H H') : ∀ {vs : List V} {ds : List PyData}, DdAll H vs ds → DdAll H' vs ds
  | _, _, .nil => .nil
  | _, _, .cons a b => .cons (Dd.same s a) (DdAll.same s b)
end

section
variable {X : Cx} {pins : List (Addr × Obj)} {σ : L2.St} {H : Hp} {s : Shared}
theorem key_read {P : Program} {w : World} {h : Heap} {k : Key} {v : Value} (e : (mixKind P w).is k v = true) : Reads h v (kD k) [] := by
  rcases keyIs_shape (show keyIs k v = true from e) with ⟨i, t, rfl, rfl⟩ | ⟨x, t, rfl, rfl⟩
  · exact .int i t
  · exact .str x t
theorem pairs_read {P : Program} {w : World} {h : Heap} : ∀ {es : List DictEntry} {vs : List (Key × Value)} {kvs : List (Key × V)},
    Pairs (mixKind P w) es vs → KV kvs vs →
    ReadsAll h (es.map (·.key)) (kvs.map fun p => kD p.1) [] ∧ es.map (·.val) = vs.map (·.2) ∧ Vals (kvs.map (·.2)) (vs.map (·.2))
  | _, _, _, .nil, .nil => ⟨.nil, rfl, .nil⟩
  | _, _, _, .cons h1 h2 t, .cons r rt => by
    obtain ⟨a, b, c⟩ := pairs_read (h := h) t rt
    refine ⟨?_, ?_, .cons r.2 c⟩
    · rw [← r.1] at h1
      exact ReadsAll.cons (key_read h1) a
    · rw [List.map_cons, List.map_cons, b, h2]
theorem zip_fst {α β : Type} {xs : List α} {ys : List β} (h : xs.length = ys.length) : (xs.zip ys).map (·.1) = xs := by
  rw [show (fun x : α × β => x.1) = Prod.fst from rfl]
  exact List.map_fst_zip (Nat.le_of_eq h)
theorem zip_snd {α β : Type} {xs : List α} {ys : List β} (h : xs.length = ys.length) : (xs.zip ys).map (·.2) = ys := by
  rw [show (fun x : α × β => x.2) = Prod.snd from rfl]
  exact List.map_snd_zip (Nat.le_of_eq h.symm)
theorem not_sys {a : Addr} {o : Obj} {vs : Array Value} {n : Nat} (sys : SysD X.base) (I : L2.Inv X pins σ H s) (h : s.heap.get? a = some o) (hc : o.data = .seq vs n) : sysModules ≠ a := by
  rintro rfl
  obtain ⟨mm, u, es, ep, hu, du, _⟩ := sys
  have := I.bk _ _ hu
  rw [h] at this
  cases this
  rw [hc] at du
  cases du
mutual
theorem Dd.reads (sys : SysD X.base) (I : Inv X pins σ H s) : ∀ {v : V} {d : PyData}, Dd H v d → ∀ {u : Value}, RelV v u → ∃ as, Reads s.heap u d as ∧ sysModules ∉ as
  | _, _, .non, _, r => by cases r; exact ⟨_, .none, List.not_mem_nil⟩
  | _, _, .bl b, _, r => by cases r; exact ⟨_, .bool b, List.not_mem_nil⟩
  | _, _, .int i, _, r => by obtain ⟨t, rfl⟩ := r; exact ⟨_, .int i t, List.not_mem_nil⟩
  | _, _, .str x, _, r => by obtain ⟨t, rfl⟩ := r; exact ⟨_, .str x t, List.not_mem_nil⟩
  | _, _, .lst e h, _, r => by
    cases r
    obtain ⟨_, its, n, rv, ho⟩ := I.hok _ _ e
    obtain ⟨as, q, ns⟩ := DdAll.reads sys I h rv
    refine ⟨_, Reads.list ho rfl rfl q, ?_⟩
    intro z
    rcases List.mem_cons.mp z with z | z
    · exact not_sys sys I ho rfl z
    · exact ns z
  | _, _, .tup e h, _, r => by
    cases r
    obtain ⟨_, its, rv, o, ho, hc, n, hd⟩ := I.hok _ _ e
    obtain ⟨as, q, ns⟩ := DdAll.reads sys I h rv
    exact ⟨_, Reads.tuple ho hc hd q, ns⟩
  | _, _, .dic (kvs := kvs) (ds := ds) e h, _, r => by
    cases r
    obtain ⟨_, hne, vs, kv, o, es, ep, ho, hx, hd, _, hp, _⟩ := I.hok _ _ e
    obtain ⟨rk, hv, rvs⟩ := pairs_read (h := s.heap) hp kv
    obtain ⟨bs, q, ns⟩ := DdAll.reads sys I h rvs
    have hl : (kvs.map fun p => kD p.1).length = ds.length := by
      rw [h.length, List.length_map, List.length_map]
    refine ⟨_, Reads.dict (as := []) (bs := bs) ho hx.1 hd ?_ ?_, ?_⟩
    · rw [zip_fst hl]; exact rk
    · rw [zip_snd hl, hv]; exact q
    · intro z
      rcases List.mem_cons.mp (show sysModules ∈ _ :: bs from z) with z | z
      · rw [z] at hne
        simp at hne
      · exact ns z
theorem DdAll.reads (sys : SysD X.base) (I : Inv X pins σ H s) : ∀ {vs : List V} {ds : List PyData}, DdAll H vs ds → ∀ {us : List Value}, Vals vs us → ∃ as, ReadsAll s.heap us ds as ∧ sysModules ∉ as
  | _, _, .nil, _, r => by cases r; exact ⟨_, .nil, List.not_mem_nil⟩
  | _, _, .cons a b, _, r => by
    cases r with
    | cons r1 r2 =>
      obtain ⟨as, q1, n1⟩ := Dd.reads sys I a r1
      obtain ⟨bs, q2, n2⟩ := DdAll.reads sys I b r2
      refine ⟨_, .cons q1 q2, ?_⟩
      intro z
      rcases List.mem_append.mp z with z | z
      · exact n1 z
      · exact n2 z
end
/-- repr(x) -/
theorem call_repr (gd : X.A.guards = some []) (hu : X.A.units + 100 < cLine) (sys : SysD X.base) :
    CallR X (.builtin "repr") (fun xs H Q => ∃ x d, xs = [x] ∧ Dd H x d ∧ d.showable = true ∧ d.depth ≤ 60 ∧ d.shown.length ≤ sizeLine ∧ Q (.str d.shown) H) := by
  rintro pins s σ H xs us Q I r ⟨x, d, rfl, hd, hs, hdep, hz, q⟩
  obtain ⟨u, rfl, r1⟩ := vals1 r
  have fin : ∀ h' v tk, (∀ b o, s.heap.get? b = some o → h'.get? b = some o) →
      EP X pins σ Q (.str d.shown v) { s with heap := h', toks := tk } := fun h' v tk hk => ⟨.str d.shown, H, I.kept hk, ⟨v, rfl⟩, q⟩
  obtain ⟨as, rd, ns⟩ := Dd.reads sys I hd r1
  cases rd with
  | none => exact PySem.P.repr_of_none (fin s.heap s.toks (s.toks + 1) fun _ _ e => e)
  | bool b => exact PySem.P.repr_of_bool (fin s.heap s.toks (s.toks + 1) fun _ _ e => e)
  | int i t => exact PySem.P.repr_of_int (of_decide_eq_true hs) (fin s.heap s.toks (s.toks + 1) fun _ _ e => e)
  | str z t => exact PySem.P.repr_of_str (fin s.heap s.toks (s.toks + 1) fun _ _ e => e) hz
  | list h1 h2 h3 h4 => exact repr_of_reads' (.list h1 h2 h3 h4) hs (fun _ => ns) gd (by omega) (fun _ _ e => e) fin hz
  | tuple h1 h2 h3 h4 => exact repr_of_reads' (.tuple h1 h2 h3 h4) hs (fun _ => ns) gd (by omega) (fun _ _ e => e) fin hz
  | dict h1 h2 h3 h4 h5 => exact repr_of_reads' (.dict h1 h2 h3 h4 h5) hs (fun _ => ns) gd (by omega) (fun _ _ e => e) fin hz
end
end MG

namespace MG
open PySem PySem.Spec PyProof.Rows L2

/-- v is data in H: at most n deep, its repr at most c signs -/
def Da (H : Hp) (n c : Nat) (v : V) : Prop := ∃ d, Dd H v d ∧ d.showable = true ∧ d.depth ≤ n ∧ d.shown.length ≤ c
theorem Da.same {H H' : Hp} {n c : Nat} {v : V} (s : Same H H') (h : Da H n c v) : Da H' n c v := by
  obtain ⟨d, a, b⟩ := h
  exact ⟨d, a.same s, b⟩
theorem Da.le {H : Hp} {n c n' c' : Nat} {v : V} (h : Da H n c v) (hn : n ≤ n') (hc : c ≤ c') : Da H n' c' v := by
  obtain ⟨d, a, b, e, f⟩ := h
  exact ⟨d, a, b, Nat.le_trans e hn, Nat.le_trans f hc⟩
theorem Da.non {H : Hp} : Da H 0 4 .non := ⟨.none, .non, rfl, Nat.le_refl _, by decide +kernel⟩
theorem Da.bl {H : Hp} (b : Bool) : Da H 0 5 (.bl b) := ⟨.bool b, .bl b, rfl, Nat.le_refl _, by cases b <;> decide +kernel⟩
theorem int_len {i : Int} {k : Nat} (hk : 0 < k) (h : i.natAbs < 2 ^ k) : (Str.ofString (toString i)).length ≤ k + 1 := by
  rw [PySem.ofString_length]
  refine int_text_length_le hk ?_
  by_cases h0 : i.natAbs = 0
  · rw [h0]; exact Nat.lt_of_le_of_lt (by decide) hk
  · exact (Nat.log2_lt h0).mpr h
theorem Da.int {H : Hp} {i : Int} (h : i.natAbs < 2 ^ 300) : Da H 0 301 (.int i) := by
  refine ⟨.int i, .int i, ?_, Nat.le_refl _, int_len (by decide) h⟩
  show decide (i.natAbs.log2 < 1920) = true
  refine decide_eq_true ?_
  by_cases h0 : i.natAbs = 0
  · rw [h0]; decide
  · exact Nat.lt_of_lt_of_le ((Nat.log2_lt h0).mpr h) (by decide)
theorem Da.str {H : Hp} (x : Str) {c : Nat} (h : (reprText x).length ≤ c) : Da H 0 c (.str x) := ⟨.str x, .str x, rfl, Nat.le_refl _, h⟩

theorem das {H : Hp} {n c : Nat} : ∀ {xs : List V}, (∀ x ∈ xs, Da H n c x) →
    ∃ ds, DdAll H xs ds ∧ PyData.showableAll ds = true ∧ PyData.depthAll ds ≤ n ∧ piled (PyData.shownAll ds) ≤ xs.length * (c + 2)
  | [], _ => ⟨[], .nil, rfl, Nat.zero_le _, by rw [PyData.shownAll, piled_nil]; exact Nat.zero_le _⟩
  | x :: xs, h => by
    obtain ⟨d, a, b, e, f⟩ := h x List.mem_cons_self
    obtain ⟨ds, a2, b2, e2, f2⟩ := das (xs := xs) fun y hy => h y (List.mem_cons_of_mem _ hy)
    refine ⟨d :: ds, .cons a a2, ?_, ?_, ?_⟩
    · rw [PyData.showableAll, b, b2]; rfl
    · rw [PyData.depthAll]; exact Nat.max_le.mpr ⟨e, e2⟩
    · rw [PyData.shownAll, piled_cons, List.length_cons, Nat.add_mul, Nat.one_mul]
      omega
theorem tupleText_le (ts : List Str) : (tupleText ts).length ≤ piled ts + 3 := by
  unfold tupleText
  rw [strLen_append, strLen_append]
  have h1 : ("(" : Str).length = 1 := rfl
  have h2 : (Str.ofString (if (ts.length == 1) = true then ",)" else ")")).length ≤ 2 := by
    cases ts.length == 1 <;> decide +kernel
  have h3 : (Str.join ", " ts).length ≤ piled ts := by
    cases ts with
    | nil => decide +kernel
    | cons t r =>
      have := join_length_add (t :: r) (List.cons_ne_nil _ _)
      omega
  have h4 : ((if (ts.length == 1) = true then ",)" else ")" : String) : Str).length ≤ 2 := h2
  omega
theorem dictText_le (ts : List Str) : (dictText ts).length ≤ piled ts + 3 := by
  unfold dictText
  rw [strLen_append, strLen_append]
  have h1 : ("{" : Str).length = 1 := rfl
  have h2 : ("}" : Str).length = 1 := rfl
  have h3 : (Str.join ", " ts).length ≤ piled ts := by
    cases ts with
    | nil => decide +kernel
    | cons t r =>
      have := join_length_add (t :: r) (List.cons_ne_nil _ _)
      omega
  omega
theorem listText_le (ts : List Str) : (listText ts).length ≤ piled ts + 3 := by
  unfold listText
  rw [strLen_append]
  have h2 : ("]" : Str).length = 1 := rfl
  cases ts with
  | nil => decide +kernel
  | cons t r =>
    have e : (textFrom 0 "[" (t :: r)) = textFrom 1 (("[" : Str) ++ (if (0 : Nat) > 0 then ", " else "" : String) ++ t) r := rfl
    rw [e, textFrom_length_pos _ _ _ Nat.one_pos, strLen_append, strLen_append, piled_cons]
    have h1 : ("[" : Str).length = 1 := rfl
    have h3 : ((if (0 : Nat) > 0 then ", " else "" : String) : Str).length = 0 := by decide +kernel
    omega
theorem Da.tup {H : Hp} {n c m : Nat} {a : Addr} {xs : List V} (e : H a = some (.tup xs)) (h : ∀ x ∈ xs, Da H n c x) (hm : xs.length ≤ m) :
    Da H (n + 1) (m * (c + 2) + 3) (.ref a) := by
  obtain ⟨ds, a1, b1, e1, f1⟩ := das h
  refine ⟨.tuple ds, .tup e a1, b1, Nat.succ_le_succ e1, ?_⟩
  have h1 := tupleText_le (PyData.shownAll ds)
  have h2 : xs.length * (c + 2) ≤ m * (c + 2) := Nat.mul_le_mul_right _ hm
  show (tupleText (PyData.shownAll ds)).length ≤ _
  omega
theorem Da.lst {H : Hp} {n c m : Nat} {a : Addr} {xs : List V} (e : H a = some (.lst xs)) (h : ∀ x ∈ xs, Da H n c x) (hm : xs.length ≤ m) :
    Da H (n + 1) (m * (c + 2) + 3) (.ref a) := by
  obtain ⟨ds, a1, b1, e1, f1⟩ := das h
  refine ⟨.list ds, .lst e a1, b1, Nat.succ_le_succ e1, ?_⟩
  have h1 := listText_le (PyData.shownAll ds)
  have h2 : xs.length * (c + 2) ≤ m * (c + 2) := Nat.mul_le_mul_right _ hm
  show (listText (PyData.shownAll ds)).length ≤ _
  omega
theorem Da.dic0 {H : Hp} {a : Addr} (e : H a = some (.dK [])) : Da H 1 3 (.ref a) :=
  ⟨.dict [], .dic e .nil, rfl, by decide, by decide +kernel⟩
theorem Da.dic1 {H : Hp} {n c : Nat} {a : Addr} {k : Str} {v : V} (e : H a = some (.dK [(.inr k, v)])) (h : Da H n c v) (hk : (reprText k).length ≤ 5) :
    Da H (n + 1) (c + 12) (.ref a) := by
  obtain ⟨d, a1, b1, e1, f1⟩ := h
  refine ⟨.dict [(.str k, d)], .dic e (.cons a1 .nil), ?_, ?_, ?_⟩
  · show (true && d.showable && true) = true
    rw [b1]; rfl
  · show max (max 0 d.depth) 0 + 1 ≤ n + 1
    omega
  · have h1 := dictText_le (PyData.shownKv [(.str k, d)])
    have h2 : PyData.shownKv [(.str k, d)] = [reprText k ++ ": " ++ d.shown] := rfl
    rw [h2] at h1
    show (dictText (PyData.shownKv [(.str k, d)])).length ≤ _
    rw [h2]
    have h3 : (reprText k ++ ": " ++ d.shown).length = (reprText k).length + 2 + d.shown.length := by
      rw [strLen_append, strLen_append]; rfl
    rw [piled_cons, piled_nil, h3] at h1
    omega
end MG

namespace MG
open PySem PySem.Spec PyProof.Rows L2

/-! ### f(a=.., b=..): every parameter by its name, in the def's order -/
def KB (K : PySem.W.Frag) (fd : FuncData) (ps : List Str) : Prop :=
  ∀ (s : Shared) (us : List Value), K.In s.heap → us.length = ps.length → BindsTo s fd ⟨[], ps.zip us⟩ (ps.zip us)
theorem kb_of {K : PySem.W.Frag} {x qual : Str} {st : Stmt} {f : Addr} {fd : FuncData} {ps : List Str} (F : Fun K x qual st f fd)
    (h : ∀ (kV doc pm : Value) (an : Option Addr) (cdv ct : Value) (us : List Value), us.length = ps.length →
      bindArgs (PySem.W.fnOf x qual (defArgs st) (defBody st) (defScope st) .none kV doc pm an cdv ct) ⟨[], ps.zip us⟩ = pure (ps.zip us)) : KB K fd ps := by
  obtain ⟨oc, od, kV, doc, pm, an, cdv, ct, osl, rfl, lk, hcd⟩ := F.ex
  exact fun s us _ hl => .of_eq (h kV doc pm an cdv ct us hl)
def tCallN (sp : Sp) (E : XK) (tk : TA) : TE := fun σ H Q => tk σ H fun zs H2 => sp zs H2 Q E
theorem pe_callN {X : Cx} {k : Nat} {f : Addr} {fd : FuncData} {ps : List Str} {sp : Sp} {E : XK} {x : Str} {p pos : Pos} {kws : List Keyword} {tk : TA}
    (F : FnOk X.prog X.w X.K X.mg X.base CX0 k f fd ps sp) (hr : Room k X.A) (hg : Gl X x)
    (hm : X.mg x = some (.ref f)) (hk : PySem.W.keepIn X.K (.ref f) = true) (hb : KB X.K fd ps) (hkw : PK X kws tk)
    (hall : (backToKw pos (keywordEach kws X.env)).all (·.1.isSome) = true := by rfl)
    (hks : (backToKw pos (keywordEach kws X.env)).filterMap (·.1) = ps := by rfl)
    (hdb : (x == ("__debug__" : Str)) = false := by decide)
    (hpl : ((backTo pos (starEach [] X.env)).any (·.1) || (backToKw pos (keywordEach kws X.env)).any (·.1.isNone)) = false := by rfl) :
    PE X (.Call (.Name x p) [] kws pos) (tCallN sp E tk) := by
  constructor
  intro pins s σ H Q I h
  refine wpAny_Call_Name_kw (ld_glob I hg hm ?_ hdb)
  refine PySem.W.callWith_KW0 (h₀ := X.base) I.ok.mod.kin hk hall (thn (hkw.run pos pins s σ H _ I h) ?_) hpl
  rintro us s1 ⟨vs, H1, I1, r, q⟩
  refine ⟨I1.kIn, ?_⟩
  rw [hks]
  have hl : us.length = ps.length := by
    rw [← r.length]
    exact F.len _ _ _ _ q
  refine wpAny_call (codeAny_mono (F.run X.A X.stack s1 H1 ⟨[], ps.zip us⟩ us vs Q E hr I1.env0 (hb s1 us I1.kIn hl) r q) ?_)
  intro res s' hq
  cases res with
  | error e => exact False.elim hq
  | ok fl =>
    cases fl with
    | ret u => exact I1.after hq
    | next => exact False.elim hq
    | brk => exact False.elim hq
    | cont => exact False.elim hq

/-! ### isinstance of data -/
def tyN : PyData → String
  | .none => "NoneType"
  | .bool _ => "bool"
  | .int _ => "int"
  | .str _ => "str"
  | .list _ => "list"
  | .tuple _ => "tuple"
  | .dict _ => "dict"
theorem Dd.ty {K : PySem.W.Frag} {H : Hp} {v : V} {d : PyData} (h : Dd H v d) : TyX K H v (.type (tyN d)) := by
  cases h with
  | non => exact .base .non
  | bl b => exact .base (.bl b)
  | int i => exact .base (.int i)
  | str x => exact .base (.str x)
  | lst e _ => exact .base (.lst e)
  | tup e _ => exact .base (.tup e)
  | dic e _ => exact .base (.dK e)
def isIntD : PyData → Bool
  | .int _ | .bool _ => true
  | _ => false
def isBoolD : PyData → Bool
  | .bool _ => true
  | _ => false
def isTupD : PyData → Bool
  | .tuple _ => true
  | _ => false
theorem kit_int (K : PySem.W.Frag) (d : PyData) : PySem.W.kitOne K (.type (tyN d)) (.type "int") = some (isIntD d) := by
  cases d with
  | none => exact kit_ty (a := "NoneType") (b := "int") (r := false) (by decide +kernel)
  | bool _ => exact kit_ty (a := "bool") (b := "int") (r := true) (by decide +kernel)
  | int _ => exact kit_ty (a := "int") (b := "int") (r := true) (by decide +kernel)
  | str _ => exact kit_ty (a := "str") (b := "int") (r := false) (by decide +kernel)
  | list _ => exact kit_ty (a := "list") (b := "int") (r := false) (by decide +kernel)
  | tuple _ => exact kit_ty (a := "tuple") (b := "int") (r := false) (by decide +kernel)
  | dict _ => exact kit_ty (a := "dict") (b := "int") (r := false) (by decide +kernel)
theorem kit_bool (K : PySem.W.Frag) (d : PyData) : PySem.W.kitOne K (.type (tyN d)) (.type "bool") = some (isBoolD d) := by
  cases d with
  | none => exact kit_ty (a := "NoneType") (b := "bool") (r := false) (by decide +kernel)
  | bool _ => exact kit_ty (a := "bool") (b := "bool") (r := true) (by decide +kernel)
  | int _ => exact kit_ty (a := "int") (b := "bool") (r := false) (by decide +kernel)
  | str _ => exact kit_ty (a := "str") (b := "bool") (r := false) (by decide +kernel)
  | list _ => exact kit_ty (a := "list") (b := "bool") (r := false) (by decide +kernel)
  | tuple _ => exact kit_ty (a := "tuple") (b := "bool") (r := false) (by decide +kernel)
  | dict _ => exact kit_ty (a := "dict") (b := "bool") (r := false) (by decide +kernel)
theorem kit_tuple (K : PySem.W.Frag) (d : PyData) : PySem.W.kitOne K (.type (tyN d)) (.type "tuple") = some (isTupD d) := by
  cases d with
  | none => exact kit_ty (a := "NoneType") (b := "tuple") (r := false) (by decide +kernel)
  | bool _ => exact kit_ty (a := "bool") (b := "tuple") (r := false) (by decide +kernel)
  | int _ => exact kit_ty (a := "int") (b := "tuple") (r := false) (by decide +kernel)
  | str _ => exact kit_ty (a := "str") (b := "tuple") (r := false) (by decide +kernel)
  | list _ => exact kit_ty (a := "list") (b := "tuple") (r := false) (by decide +kernel)
  | tuple _ => exact kit_ty (a := "tuple") (b := "tuple") (r := true) (by decide +kernel)
  | dict _ => exact kit_ty (a := "dict") (b := "tuple") (r := false) (by decide +kernel)
end MG

/-! MG: twos, greatest common parts -/
namespace MG
open PySem

/-- how often 2 parts n (0 of 0) -/
def v2 (n : Nat) : Nat := if h : n = 0 then 0 else if n % 2 = 1 then 0 else v2 (n / 2) + 1
termination_by n
decreasing_by omega
theorem v2_odd {n : Nat} (h : n % 2 = 1) : v2 n = 0 := by
  rw [v2]
  simp [h]
theorem v2_even {n : Nat} (h0 : n ≠ 0) (h : n % 2 = 0) : v2 n = v2 (n / 2) + 1 := by
  rw [v2]
  rw [dif_neg h0, if_neg (by omega)]
theorem v2_mul2 {n : Nat} (h0 : n ≠ 0) : v2 (2 * n) = v2 n + 1 := by
  rw [v2_even (by omega) (by omega), show 2 * n / 2 = n by omega]
/-- n & (n - 1) takes the last one away -/
theorem land_pred : ∀ n : Nat, 0 < n → (n &&& (n - 1)) + 2 ^ v2 n = n := by
  intro n
  induction n using Nat.strongRecOn with
  | ind n ih =>
    intro hn
    have hd : (n &&& (n - 1)) / 2 = n / 2 &&& (n - 1) / 2 := Nat.and_div_two ..
    have hm := Nat.and_mod_two_eq_one (a := n) (b := n - 1)
    have hsplit := Nat.div_add_mod (n &&& (n - 1)) 2
    rcases Nat.mod_two_eq_zero_or_one n with h | h
    · have h2 : (n - 1) / 2 = n / 2 - 1 := by omega
      have hq : 0 < n / 2 := by omega
      have := ih (n / 2) (by omega) hq
      rw [h2] at hd
      have hz : (n &&& (n - 1)) % 2 = 0 := by
        rcases Nat.mod_two_eq_zero_or_one (n &&& (n - 1)) with z | z
        · exact z
        · have := (hm.mp z).1
          omega
      rw [v2_even (by omega) h, Nat.pow_succ]
      omega
    · have h2 : (n - 1) / 2 = n / 2 := by omega
      rw [h2, Nat.and_self] at hd
      have hz : (n &&& (n - 1)) % 2 = 0 := by
        rcases Nat.mod_two_eq_zero_or_one (n &&& (n - 1)) with z | z
        · exact z
        · have := (hm.mp z).2
          omega
      rw [v2_odd h]
      show _ + 1 = n
      omega
theorem low_bit {n : Int} (h : 0 < n) : Builtin.bitAnd n (-n) = 2 ^ v2 n.toNat := by
  have e : Builtin.bitNot (-n) = n - 1 := by
    show -(-n) - 1 = n - 1
    omega
  rw [PyProof.Rows.bitAnd_pn (by omega) (by omega), e]
  have h1 := land_pred n.toNat (by omega)
  have h2 : (n - 1).toNat = n.toNat - 1 := by omega
  rw [h2]
  have h3 : ((n.toNat &&& (n.toNat - 1) : Nat) : Int) + ((2 ^ v2 n.toNat : Nat) : Int) = n := by
    rw [← Int.natCast_add, h1]
    omega
  rw [show ((2 ^ v2 n.toNat : Nat) : Int) = 2 ^ v2 n.toNat from by rw [Int.natCast_pow]; rfl] at h3
  omega
theorem bits_pow (k : Nat) : (Builtin.Int.intBits ((2 : Int) ^ k) : Nat) = k + 1 := by
  unfold Builtin.Int.intBits
  have h0 : ((2 : Int) ^ k == 0) = false := by
    refine beq_eq_false_iff_ne.mpr ?_
    have : (0 : Int) < 2 ^ k := Int.pow_pos (by decide)
    omega
  rw [h0]
  have h1 : ((2 : Int) ^ k).natAbs = 2 ^ k := by
    rw [Int.natAbs_pow]
    rfl
  rw [if_neg Bool.false_ne_true, h1, Nat.log2_two_pow]
theorem pow_v2_dvd : ∀ n : Nat, 2 ^ v2 n ∣ n := by
  intro n
  induction n using Nat.strongRecOn with
  | ind n ih =>
    by_cases h0 : n = 0
    · subst h0; exact Nat.dvd_zero _
    · rcases Nat.mod_two_eq_zero_or_one n with h | h
      · rw [v2_even h0 h, Nat.pow_succ]
        have h1 := ih (n / 2) (by omega)
        have h2 : n = n / 2 * 2 := by omega
        rw [h2]
        exact Nat.mul_dvd_mul_right (by rw [show n / 2 * 2 / 2 = n / 2 by omega]; exact h1) 2
      · rw [v2_odd h]; exact Nat.one_dvd _
theorem v2_unique {n k m : Nat} (h : n = 2 ^ k * m) (hm : m % 2 = 1) : v2 n = k := by
  induction k generalizing n with
  | zero =>
    rw [Nat.pow_zero, Nat.one_mul] at h
    rw [h]; exact v2_odd hm
  | succ k ih =>
    have h0 : 2 ^ k * m ≠ 0 := by
      intro z
      rcases Nat.mul_eq_zero.mp z with z | z
      · exact absurd z (Nat.pos_iff_ne_zero.mp (Nat.two_pow_pos k))
      · omega
    rw [h, Nat.pow_succ, Nat.mul_comm (2 ^ k) 2, Nat.mul_assoc, v2_mul2 h0, ih rfl]
theorem odd_rest {n : Nat} (h : 0 < n) : n / 2 ^ v2 n % 2 = 1 := by
  induction n using Nat.strongRecOn with
  | ind n ih =>
    rcases Nat.mod_two_eq_zero_or_one n with z | z
    · rw [v2_even (by omega) z, Nat.pow_succ, Nat.mul_comm, ← Nat.div_div_eq_div_mul]
      exact ih (n / 2) (by omega) (by omega)
    · rw [v2_odd z, Nat.pow_zero, Nat.div_one]; exact z
theorem v2_split {n : Nat} (h : 0 < n) : n = 2 ^ v2 n * (n / 2 ^ v2 n) := (Nat.mul_div_cancel' (pow_v2_dvd n)).symm
theorem pow_dvd_iff {n k : Nat} (h : 0 < n) : 2 ^ k ∣ n ↔ k ≤ v2 n := by
  constructor
  · intro hd
    refine Nat.le_of_not_lt fun hlt => ?_
    have h1 : 2 ^ (v2 n + 1) ∣ n := Nat.dvd_trans (Nat.pow_dvd_pow 2 hlt) hd
    obtain ⟨c, hc⟩ := h1
    have h2 := odd_rest h
    have h3 : n / 2 ^ v2 n = 2 * c := by
      rw [hc]
      rw [← hc]
      have : n = 2 ^ v2 n * (2 * c) := by rw [← Nat.mul_assoc, ← Nat.pow_succ]; exact hc
      exact Nat.div_eq_of_eq_mul_right (Nat.two_pow_pos _) this
    omega
  · intro hk
    exact Nat.dvd_trans (Nat.pow_dvd_pow 2 hk) (pow_v2_dvd n)

/-- the greatest number that parts all -/
def gl : List Int → Nat
  | [] => 0
  | n :: r => Nat.gcd n.toNat (gl r)
theorem gl_append : ∀ (a b : List Int), gl (a ++ b) = Nat.gcd (gl a) (gl b)
  | [], b => by rw [List.nil_append, gl, Nat.gcd_zero_left]
  | n :: r, b => by rw [List.cons_append, gl, gl_append r b, gl, Nat.gcd_assoc]
theorem gl_perm {a b : List Int} (h : a.Perm b) : gl a = gl b := by
  induction h with
  | nil => rfl
  | cons x _ ih => rw [gl, gl, ih]
  | swap x y l => rw [gl, gl, gl, gl, ← Nat.gcd_assoc, ← Nat.gcd_assoc, Nat.gcd_comm y.toNat x.toNat]
  | trans _ _ ih1 ih2 => rw [ih1, ih2]
theorem gl_zeros : ∀ k : Nat, gl (List.replicate k 0) = 0
  | 0 => rfl
  | k + 1 => by rw [List.replicate_succ, gl, gl_zeros k]; rfl
theorem gl_dvd : ∀ {l : List Int} {n : Int}, n ∈ l → gl l ∣ n.toNat
  | m :: r, n, h => by
    rcases List.mem_cons.mp h with rfl | h
    · exact Nat.gcd_dvd_left _ _
    · exact Nat.dvd_trans (Nat.gcd_dvd_right _ _) (gl_dvd h)
theorem gl_pos : ∀ {l : List Int} {n : Int}, n ∈ l → 0 < n → 0 < gl l := fun {l n} h hn =>
  Nat.pos_of_ne_zero fun z => by
    have := gl_dvd h
    rw [z] at this
    have := Nat.eq_zero_of_zero_dvd this
    omega
theorem gl_le {l : List Int} {n : Int} (h : n ∈ l) (hn : 0 < n) : (gl l : Int) ≤ n := by
  have := Nat.le_of_dvd (by omega) (gl_dvd h)
  omega
theorem gl_mul (c : Int) (hc : 0 ≤ c) : ∀ {l : List Int}, (∀ n ∈ l, 0 ≤ n) → gl (l.map fun n => c * n) = c.toNat * gl l
  | [], _ => rfl
  | n :: r, h => by
    rw [List.map_cons, gl, gl, gl_mul c hc fun m hm => h m (List.mem_cons_of_mem _ hm), ← Nat.gcd_mul_left, Int.toNat_mul hc (h n List.mem_cons_self)]
theorem gl_filter : ∀ l : List Int, gl (l.filter fun n => decide (n > 0)) = gl l
  | [] => rfl
  | n :: r => by
    by_cases h : n > 0
    · rw [List.filter_cons_of_pos (by simpa using h), gl, gl, gl_filter r]
    · rw [List.filter_cons_of_neg (by simpa using h), gl_filter r, gl, show n.toNat = 0 by omega, Nat.gcd_zero_left]
/-- how many are parted by 2 no oftener than t -/
def fewT (t : Nat) (l : List Int) : List Int := l.filter fun n => decide (n > 0) && decide (v2 n.toNat ≤ t)
theorem fewT_perm {t : Nat} {a b : List Int} (h : a.Perm b) : (fewT t a).length = (fewT t b).length := (h.filter _).length_eq
theorem fewT_zeros (t k : Nat) : fewT t (List.replicate k 0) = [] := by
  unfold fewT
  refine List.filter_eq_nil_iff.mpr fun n hn => ?_
  rw [List.eq_of_mem_replicate hn]
  simp
end MG

namespace K56
open PySem PySem.Spec PyProof.Rows L2 MG
def topS (i : Nat) : Stmt := PySem.Challenge.pw_matchgift_k56_whole_goals_met_open_lost.main.body.getD i (.Pass ⟨0, 0, 0, 0⟩)
abbrev sBox : Stmt := topS 52
abbrev sTake : Stmt := topS 53
abbrev sOf : Stmt := topS 54
theorem same_upd {H : Hp} {p : Addr} {o : HO} (h : H p = none) : Same H (upd H p o) := fun b x e => by
  rw [upd_ne (ne_of_none e h)]
  exact e
theorem scBox : FnScope ["_law_script", "_law_k", "_law_cell", "_law_own"] ["_law_script", "_law_k"] (defScope sBox) := ⟨rfl, rfl, rfl, by decide +kernel, rfl, by decide +kernel, by decide +kernel⟩
theorem scTake : FnScope ["_law_box_here", "_law_many", "_law_digit", "_law_mixed"] ["_law_box_here", "_law_many"] (defScope sTake) := ⟨rfl, rfl, rfl, by decide +kernel, rfl, by decide +kernel, by decide +kernel⟩
theorem scOf : FnScope ["_law_box_here", "_law_some"] ["_law_box_here", "_law_some"] (defScope sOf) := ⟨rfl, rfl, rfl, by decide +kernel, rfl, by decide +kernel, by decide +kernel⟩

def Box (H : Hp) (b : Addr) (n : Nat) : Prop := ∃ o m c : Int, H b = some (.lst [.int o, .int m, .int c]) ∧ 0 ≤ o ∧ o < 10 ^ 240 ∧ 0 ≤ m ∧ m < 2305843009213693921 ∧ 0 ≤ c ∧ c ≤ n
theorem Box.le {H : Hp} {b : Addr} {n n' : Nat} (h : Box H b n) (hn : n ≤ n') : Box H b n' := by
  obtain ⟨o, m, c, e, h1, h2, h3, h4, h5, h6⟩ := h
  exact ⟨o, m, c, e, h1, h2, h3, h4, h5, by omega⟩

theorem bit (b : Bool) : (-(2 ^ 64) : Int) < (if b = true then 1 else 0) ∧ (if b = true then (1 : Int) else 0) < 2 ^ 64 := by
  cases b <;> decide
theorem modb (x : Int) : (-(2 ^ 64) : Int) < x % 2305843009213693921 ∧ x % 2305843009213693921 < 2 ^ 64 := by
  have h1 := Int.emod_nonneg x (show (2305843009213693921 : Int) ≠ 0 by decide)
  have h2 := Int.emod_lt_of_pos x (show (0 : Int) < 2305843009213693921 by decide)
  omega
theorem own0 (x : Int) (b : Bool) : 0 ≤ x % 10 ^ 240 * (if b = true then 1 else 0) := by
  have := Int.emod_nonneg x (show (10 : Int) ^ 240 ≠ 0 by decide)
  cases b with
  | false => rw [if_neg Bool.false_ne_true]; omega
  | true => rw [if_pos rfl]; omega
theorem own1 (x : Int) (b : Bool) : x % 10 ^ 240 * (if b = true then 1 else 0) < 10 ^ 240 := by
  have := Int.emod_lt_of_pos x (show (0 : Int) < 10 ^ 240 by decide)
  cases b with
  | false => rw [if_neg Bool.false_ne_true, Int.mul_zero]; decide
  | true => rw [if_pos rfl, Int.mul_one]; exact this
section
variable {P : Program} {w : World} {K : PySem.W.Frag} {mg : Str → Option Value} {base : Heap}
def spBox (K : PySem.W.Frag) : Sp := fun vs H Q _ => ∃ (a : Addr) (ns : List Int) (k : Int), vs = [.ref a, .int k] ∧ SqL K H a (ns.map V.int) ∧ 0 ≤ k ∧ k ≤ 63 ∧
  ∀ p H', H p = none → Same H H' → Box H' p 0 → (∀ a, a ≠ p → H' a = H a) → Q (.ref p) H'
theorem ok_box {f : Addr} {fd : FuncData} {k : Nat} (F : Fun K "_law_box" "_law_box" sBox f fd) (ml : mg "len" = none) (mab : mg "abs" = none) (mI : mg "int" = none) :
    FnOk P w K mg base CX0 (k + 1) f fd ["_law_script", "_law_k"] (spBox K) := by
  refine F.ok scBox (fun vs H Q E h => ?_) (fun cdv A outer s H vs Q E hr h => ?_)
  · obtain ⟨a, ns, k, rfl, _⟩ := h
    rfl
  · obtain ⟨a, ns, k, rfl, hS, k0, k1, q⟩ := h
    refine ⟨_, pss_cons (ps_set (i := 2) scBox.nd rfl (.inl rfl) (pe_ifExp
          (pt_cmpR op_lt (pv 1) (pe_callB call_len_seq (by rfl) ml PySem.boot_len (pa_cons (pv 0) pa_nil)) (nomark _))
          (pe_ix ix_list (pv 0) (pv 1) (fun _ _ => rfl)) pe_int))
      (pss_cons (ps_set (i := 3) scBox.nd rfl (.inl rfl) (pe_op op_mul
          (pe_op op_mod (pe_callB call_abs (by rfl) mab (by decide +kernel) (pa_cons (pv 2) pa_nil))
            (pe_op op_mulW (pe_op op_mulW (pe_op op_mulW (pe_op op_pow pe_int pe_int) (pe_op op_pow pe_int pe_int)) (pe_op op_pow pe_int pe_int)) (pe_op op_pow pe_int pe_int)))
          (pe_callTy call_int1 (by rfl) mI (by decide +kernel) (pa_cons (pe_cmpR op_ge (pe_callB call_abs (by rfl) mab (by decide +kernel) (pa_cons (pv 2) pa_nil)) (pe_op op_pow pe_int pe_int) (nomark _)) pa_nil))))
      (pss_one (ps_ret (pe_lst (pa_cons (pv 3) (pa_cons
          (pe_op op_mod (pe_op op_mul (pe_op op_add (pe_op op_add (pe_op op_mod (pv 2) pe_int) (pe_op op_mul (pe_op op_mul pe_int (pv 1)) (pv 1))) pe_int) pe_int) pe_int)
          (pa_cons pe_int pa_nil))))))), ?_⟩
    have fin : ∀ o : Int, 0 ≤ o → o < 10 ^ 240 → ∀ m : Int, 0 ≤ m → m < 2305843009213693921 → ∀ p, H p = none → Q (.ref p) (upd H p (.lst [.int o, .int m, .int 0])) := by
      intro o o0 o1 m m0 m1 p hp
      refine q p _ hp (same_upd hp) ⟨o, m, 0, upd_same, o0, o1, m0, m1, by omega, by omega⟩ ?_
      intro a ha
      exact upd_ne ha
    have kk : (-(2 ^ 64) : Int) < k ∧ k < 2 ^ 64 := ⟨by omega, by omega⟩
    have w1 : CMulW ((10 : Int) ^ (60 : Int).toNat) (10 ^ (60 : Int).toNat) := by unfold CMulW; decide +kernel
    have w2 : CMulW ((10 : Int) ^ (60 : Int).toNat * 10 ^ (60 : Int).toNat) (10 ^ (60 : Int).toNat) := by unfold CMulW; decide +kernel
    have w3 : CMulW ((10 : Int) ^ (60 : Int).toNat * 10 ^ (60 : Int).toNat * 10 ^ (60 : Int).toNat) (10 ^ (60 : Int).toNat) := by unfold CMulW; decide +kernel
    have cp : CPow 10 60 := ⟨by decide, by decide, by decide⟩
    have cq : CPow 10 18 := ⟨by decide, by decide, by decide⟩
    have pos : (0 : Int) < 10 ^ (60 : Int).toNat * 10 ^ (60 : Int).toNat * 10 ^ (60 : Int).toNat * 10 ^ (60 : Int).toNat := by decide +kernel
    have emod : (10 : Int) ^ (60 : Int).toNat * 10 ^ (60 : Int).toNat * 10 ^ (60 : Int).toNat * 10 ^ (60 : Int).toNat = 10 ^ 240 := by decide +kernel
    refine ⟨_, rfl, .ref a, rfl, a, _, rfl, .inl hS, _, _, rfl, rfl, _, rfl, ite2 (fun hk => ?_) (fun hk => ?_)⟩
    · have hk' := of_decide_eq_true hk
      rw [List.length_map] at hk'
      obtain ⟨j, rfl⟩ : ∃ j : Nat, k = (j : Int) := ⟨k.toNat, by omega⟩
      have hj : j < ns.length := by omega
      refine ⟨.ref a, rfl, _, rfl, a, _, (j : Int), .int ns[j], rfl, rfl, hS, atI_nat (by rw [List.getElem?_map, List.getElem?_eq_getElem hj]; rfl), ?_⟩
      generalize ns[j] = cell
      refine ⟨.int cell, rfl, cell, rfl, 10, 60, rfl, rfl, cp, 10, 60, rfl, rfl, cp, _, _, rfl, rfl, w1, 10, 60, rfl, rfl, cp, _, _, rfl, rfl, w2, 10, 60, rfl, rfl, cp, _, _, rfl, rfl, w3, _, _, rfl, rfl, pos, ?_⟩
      refine ⟨.int cell, rfl, cell, rfl, 10, 18, rfl, rfl, cq, _, _, rfl, rfl, .inr ⟨_, rfl, _, _, rfl, rfl, .inr (bit _), ?_⟩⟩
      refine ⟨_, rfl, _, rfl, cell, 2305843009213693951, rfl, rfl, (by show (0 : Int) < 2305843009213693951; decide), _, rfl, 7919, (j : Int), rfl, rfl, .inl ⟨by decide, by decide⟩, _, rfl, _, (j : Int), rfl, rfl, .inr kk, _, _, rfl, rfl, _, 43, rfl, rfl, _, 48271, rfl, rfl, .inr ⟨by decide, by decide⟩, _, _, rfl, rfl, (by show (0 : Int) < 2305843009213693921; decide), ?_⟩
      refine ⟨by show 3 ≤ sizeLine; decide, ?_⟩
      rw [emod]
      exact fin _ (own0 _ _) (own1 _ _) _ (Int.emod_nonneg _ (by decide)) (Int.emod_lt_of_pos _ (by decide))
    · skip
      refine ⟨.int 0, rfl, 0, rfl, 10, 60, rfl, rfl, cp, 10, 60, rfl, rfl, cp, _, _, rfl, rfl, w1, 10, 60, rfl, rfl, cp, _, _, rfl, rfl, w2, 10, 60, rfl, rfl, cp, _, _, rfl, rfl, w3, _, _, rfl, rfl, pos, ?_⟩
      refine ⟨.int 0, rfl, 0, rfl, 10, 18, rfl, rfl, cq, _, _, rfl, rfl, .inr ⟨_, rfl, _, _, rfl, rfl, .inr (bit _), ?_⟩⟩
      refine ⟨_, rfl, _, rfl, 0, 2305843009213693951, rfl, rfl, (by show (0 : Int) < 2305843009213693951; decide), _, rfl, 7919, k, rfl, rfl, .inl ⟨by decide, by decide⟩, _, rfl, _, k, rfl, rfl, .inr kk, _, _, rfl, rfl, _, 43, rfl, rfl, _, 48271, rfl, rfl, .inr ⟨by decide, by decide⟩, _, _, rfl, rfl, (by show (0 : Int) < 2305843009213693921; decide), ?_⟩
      refine ⟨by show 3 ≤ sizeLine; decide, ?_⟩
      rw [emod]
      exact fin _ (own0 _ _) (own1 _ _) _ (Int.emod_nonneg _ (by decide)) (Int.emod_lt_of_pos _ (by decide))

def spTake : Sp := fun vs H Q _ => ∃ b many n, vs = [.ref b, .int many] ∧ Box H b n ∧ n ≤ 1000000 ∧ 1 ≤ many ∧ many ≤ 10 ^ 40 ∧
  ∀ r H', 0 ≤ r → r < many → Box H' b (n + 1) → (∀ a, a ≠ b → H' a = H a) → Q (.int r) H'
theorem ok_take {f : Addr} {fd : FuncData} {k : Nat} (F : Fun K "_law_take" "_law_take" sTake f fd) :
    FnOk P w K mg base CX0 (k + 1) f fd ["_law_box_here", "_law_many"] spTake := by
  refine F.ok scTake (fun vs H Q E h => ?_) (fun cdv A outer s H vs Q E hr h => ?_)
  · obtain ⟨b, many, n, rfl, _⟩ := h
    rfl
  · obtain ⟨b, many, n, rfl, ⟨o, m, c, e, h1, h2, h3, h4, h5, h6⟩, hn, m1, m2, q⟩ := h
    refine ⟨_, pss_cons (ps_if (pt_cmpR op_gt (pe_ix ix_list (pv 0) pe_int (fun _ _ => rfl)) pe_int (nomark _))
        (pss_cons (ps_set (i := 2) scTake.nd rfl (.inl rfl) (pe_op op_mod (pe_ix ix_list (pv 0) pe_int (fun _ _ => rfl)) (pv 1)))
        (pss_cons (ps_asg (pe_op op_fdivW (pe_ix ix_list (pv 0) pe_int (fun _ _ => rfl)) (pv 1)) (pg_sub (pv 0) pe_int set_list))
        (pss_one (ps_ret (pv 2))))) pss_nil)
      (pss_cons (ps_asg (pe_op op_add (pe_ix ix_list (pv 0) pe_int (fun _ _ => rfl)) pe_int) (pg_sub (pv 0) pe_int set_list))
      (pss_cons (ps_set (i := 3) scTake.nd rfl (.inl rfl) (pe_op op_mod (pe_op op_mul
          (pe_op op_add (pe_op op_add (pe_ix ix_list (pv 0) pe_int (fun _ _ => rfl)) (pe_op op_mul (pe_op op_mul pe_int (pe_ix ix_list (pv 0) pe_int (fun _ _ => rfl))) (pe_ix ix_list (pv 0) pe_int (fun _ _ => rfl)))) pe_int) pe_int) pe_int))
      (pss_cons (ps_set (i := 3) scTake.nd rfl (.inl rfl) (pe_op op_mod (pe_op op_mul (pv 3)
          (pe_op op_add (pe_op op_mod (pv 3) pe_int) (pe_op op_mul pe_int (pe_ix ix_list (pv 0) pe_int (fun _ _ => rfl))))) pe_int))
      (pss_one (ps_ret (pe_op op_mod (pe_op op_add (pe_op op_fdiv (pv 3) pe_int) (pe_op op_fdiv (pv 3) pe_int)) (pv 1))))))), ?_⟩
    have hdiv : CDivW o many := wide_div (b := 200) (by omega) (by omega) (by decide) (by decide)
    have hmany : (fun (_ j : Int) => 0 < j) o many := show 0 < many by omega
    refine ⟨.ref b, rfl, b, _, 0, .int o, rfl, rfl, SqL.of e, atI_nat (j := 0) rfl, o, 0, rfl, rfl, _, rfl, ite2 (fun ho => ?_) (fun ho => ?_)⟩
    · refine ⟨.ref b, rfl, b, _, 0, .int o, rfl, rfl, SqL.of e, atI_nat (j := 0) rfl, _, rfl, o, many, rfl, rfl, hmany, ?_⟩
      refine ⟨.ref b, rfl, b, _, 0, .int o, rfl, rfl, SqL.of e, atI_nat (j := 0) rfl, _, rfl, o, many, rfl, rfl, hdiv, .ref b, rfl, b, _, 0, 0, rfl, rfl, e, rfl, ?_⟩
      refine ⟨_, rfl, ?_⟩
      refine q _ _ (Int.emod_nonneg _ (by omega)) (Int.emod_lt_of_pos _ (by omega)) ⟨o / many, m, c, upd_same, ?_, ?_, h3, h4, h5, by omega⟩ ?_
      · exact Int.ediv_nonneg h1 (by omega)
      · exact Int.lt_of_le_of_lt (Int.ediv_le_self _ h1) h2
      · intro a ha
        exact upd_ne ha
    · have hc1 : (-(2 ^ 64) : Int) < c + 1 ∧ c + 1 < 2 ^ 64 := ⟨by omega, by omega⟩
      refine ⟨.ref b, rfl, b, _, 2, .int c, rfl, rfl, SqL.of e, atI_nat (j := 2) rfl, c, 1, rfl, rfl, .ref b, rfl, b, _, 2, 2, rfl, rfl, e, rfl, ?_⟩
      generalize hH : upd H b (HO.lst (List.set [V.int o, V.int m, V.int c] 2 (V.int (c + 1)))) = H2
      have e2 : H2 b = some (.lst [.int o, .int m, .int (c + 1)]) := by rw [← hH]; exact upd_same
      have off : ∀ a, a ≠ b → H2 a = H a := fun a ha => by rw [← hH]; exact upd_ne ha
      refine ⟨.ref b, rfl, b, _, 1, .int m, rfl, rfl, SqL.of e2, atI_nat (j := 1) rfl, .ref b, rfl, b, _, 2, .int (c + 1), rfl, rfl, SqL.of e2, atI_nat (j := 2) rfl, 65537, c + 1, rfl, rfl, .inr hc1, .ref b, rfl, b, _, 2, .int (c + 1), rfl, rfl, SqL.of e2, atI_nat (j := 2) rfl, _, c + 1, rfl, rfl, .inr hc1, m, _, rfl, rfl, _, 11, rfl, rfl, _, 48271, rfl, rfl, .inr ⟨by decide, by decide⟩, _, _, rfl, rfl, (by show (0 : Int) < 2305843009213693921; decide), ?_⟩
      refine ⟨_, rfl, _, rfl, _, 1000003, rfl, rfl, (by show (0 : Int) < 1000003; decide), .ref b, rfl, b, _, 2, .int (c + 1), rfl, rfl, SqL.of e2, atI_nat (j := 2) rfl, 99991, c + 1, rfl, rfl, .inr hc1, _, _, rfl, rfl, _, _, rfl, rfl, .inl (modb _), _, _, rfl, rfl, (by show (0 : Int) < 2305843009213693907; decide), ?_⟩
      refine ⟨_, rfl, _, 97, rfl, rfl, ⟨by decide, by decide⟩, _, rfl, _, 1000033, rfl, rfl, ⟨by decide, by decide⟩, _, _, rfl, rfl, .int many, rfl, _, many, rfl, rfl, (by show (0 : Int) < many; omega), ?_⟩
      refine q _ _ (Int.emod_nonneg _ (by omega)) (Int.emod_lt_of_pos _ (by omega)) ⟨o, m, c + 1, e2, h1, h2, h3, h4, by omega, by omega⟩ off

def spOf : Sp := fun vs H Q _ => ∃ b l n xs, vs = [.ref b, .ref l] ∧ Box H b n ∧ n ≤ 1000000 ∧ H l = some (.lst xs) ∧ b ≠ l ∧ 1 ≤ xs.length ∧ xs.length ≤ 10000000 ∧
  ∀ x H', x ∈ xs → Box H' b (n + 1) → (∀ a, a ≠ b → H' a = H a) → Q x H'
theorem ok_of {f fT : Addr} {fd fdT : FuncData} {k : Nat} (F : Fun K "_law_of" "_law_of" sOf f fd) (FT : Fun K "_law_take" "_law_take" sTake fT fdT) (bT : Binds K fdT ["_law_box_here", "_law_many"] [])
    (gT : mg "_law_take" = some (.ref fT)) (ml : mg "len" = none) :
    FnOk P w K mg base CX0 (k + 2) f fd ["_law_box_here", "_law_some"] spOf := by
  have GT : FnOk P w K mg base CX0 (k + 1) fT fdT ["_law_box_here", "_law_many"] spTake := ok_take FT
  refine F.ok scOf (fun vs H Q E h => ?_) (fun cdv A outer s H vs Q E hr h => ?_)
  · obtain ⟨b, l, n, xs, rfl, _⟩ := h
    rfl
  · obtain ⟨b, l, n, xs, rfl, hB, hn, hx, ne, l1, l2, q⟩ := h
    refine ⟨_, pss_one (ps_ret (pe_ix ix_list (pv 1) (pe_call GT hr (by rfl) gT FT.kp bT .nil pass0 (pa_cons (pv 0) (pa_cons
      (pe_callB call_len_seq (by rfl) ml PySem.boot_len (pa_cons (pv 1) pa_nil)) pa_nil))) (fun _ _ => rfl))), ?_⟩
    refine ⟨.ref l, rfl, .ref b, rfl, .ref l, rfl, l, xs, rfl, .inl (SqL.of hx), b, (xs.length : Int), n, rfl, hB, hn, by omega, by omega, ?_⟩
    intro r H' r0 r1 hB' hk
    have hxl : H' l = some (.lst xs) := by rw [hk l (Ne.symm ne)]; exact hx
    obtain ⟨j, rfl⟩ : ∃ j : Nat, r = (j : Int) := ⟨r.toNat, by omega⟩
    have hj : j < xs.length := by omega
    exact ⟨l, xs, (j : Int), xs[j], rfl, rfl, SqL.of hxl, atI_nat (List.getElem?_eq_getElem hj), q _ H' (List.getElem_mem hj) hB' hk⟩
end
/-! ### what stays while the box is drawn from -/
def SX (b : Addr) (H H' : Hp) : Prop := ∀ a o, a ≠ b → H a = some o → H' a = some o
theorem SX.refl (b : Addr) (H : Hp) : SX b H H := fun _ _ _ h => h
theorem SX.trans {b : Addr} {H H1 H2 : Hp} (x : SX b H H1) (y : SX b H1 H2) : SX b H H2 := fun a o n h => y a o n (x a o n h)
theorem SX.of_same {b : Addr} {H H' : Hp} (h : Same H H') : SX b H H' := fun a o _ e => h a o e
theorem SX.of_eq {b : Addr} {H H' : Hp} (h : ∀ a, a ≠ b → H' a = H a) : SX b H H' := fun a o n e => by rw [h a n]; exact e
theorem SX.new {b : Addr} {H H' : Hp} {p : Addr} {o : HO} (x : SX b H H') (hp : H' p = none) : SX b H (upd H' p o) := x.trans (.of_same (same_upd hp))
theorem SX.free {b p : Addr} {H H' : Hp} {n : Nat} (x : SX b H H') (hB : Box H' b n) (h : H' p = none) : H p = none := by
  cases e : H p with
  | none => rfl
  | some o =>
    by_cases hb : p = b
    · subst hb
      obtain ⟨_, _, _, z, _⟩ := hB
      rw [h] at z
      cases z
    · rw [x p o hb e] at h
      cases h
theorem Box.at {H H' : Hp} {b : Addr} {n : Nat} (h : Box H b n) (e : H' b = H b) : Box H' b n := by
  obtain ⟨o, m, c, z, r⟩ := h
  exact ⟨o, m, c, by rw [e]; exact z, r⟩
theorem Box.new {H : Hp} {b p : Addr} {n : Nat} {o : HO} (h : Box H b n) (hp : H p = none) : Box (upd H p o) b n := by
  obtain ⟨_, _, _, z, _⟩ := id h
  exact h.at (upd_ne (ne_of_none z hp))
theorem Box.some {H : Hp} {b : Addr} {n : Nat} (h : Box H b n) : H b ≠ none := by
  obtain ⟨_, _, _, z, _⟩ := h
  rw [z]
  exact fun q => nomatch q

end K56

namespace K56
open PySem PySem.Spec PyProof.Rows L2 MG
abbrev sTwosIn : Stmt := topS 2
abbrev sOddPart : Stmt := topS 3
abbrev sCommon : Stmt := topS 4
abbrev sUnit : Stmt := topS 5
abbrev sMeasure : Stmt := topS 6
abbrev sTwos : Stmt := topS 7
abbrev sOddOnes : Stmt := topS 8
theorem scTwosIn : FnScope ["n"] ["n"] (defScope sTwosIn) := ⟨rfl, rfl, rfl, by decide +kernel, rfl, by decide +kernel, by decide +kernel⟩
theorem scOddPart : FnScope ["n"] ["n"] (defScope sOddPart) := ⟨rfl, rfl, rfl, by decide +kernel, rfl, by decide +kernel, by decide +kernel⟩
theorem scCommon : FnScope ["a", "b"] ["a", "b"] (defScope sCommon) := ⟨rfl, rfl, rfl, by decide +kernel, rfl, by decide +kernel, by decide +kernel⟩
theorem scUnit : FnScope ["row", "greatest", "amount"] ["row"] (defScope sUnit) := ⟨rfl, rfl, rfl, by decide +kernel, rfl, by decide +kernel, by decide +kernel⟩
theorem scMeasure : FnScope ["row"] ["row"] (defScope sMeasure) := ⟨rfl, rfl, rfl, by decide +kernel, rfl, by decide +kernel, by decide +kernel⟩
theorem scTwos : FnScope ["row"] ["row"] (defScope sTwos) := ⟨rfl, rfl, rfl, by decide +kernel, rfl, by decide +kernel, by decide +kernel⟩
theorem scOddOnes : FnScope ["row", "fewest_twos", "amount"] ["row"] (defScope sOddOnes) := ⟨rfl, rfl, rfl, by decide +kernel, rfl, by decide +kernel, by decide +kernel⟩

theorem gl_take_succ (ns : List Int) (i : Nat) (h : i < ns.length) : gl (ns.take (i + 1)) = Nat.gcd (gl (ns.take i)) ns[i].toNat := by
  rw [List.take_add_one, List.getElem?_eq_getElem h, gl_append]
  show Nat.gcd _ (Nat.gcd _ 0) = _
  rw [Nat.gcd_zero_right]

section
variable {P : Program} {w : World} {K : PySem.W.Frag} {mg : Str → Option Value} {base : Heap}
def spTwosIn : Sp := fun vs H Q _ => ∃ n : Int, vs = [.int n] ∧ 0 < n ∧ Q (.int (v2 n.toNat : Nat)) H
theorem ok_twosIn {f : Addr} {fd : FuncData} {k : Nat} (F : Fun K "twos_in" "twos_in" sTwosIn f fd) : FnOk P w K mg base CX0 (k + 1) f fd ["n"] spTwosIn := by
  refine F.ok scTwosIn (fun vs H Q E h => ?_) (fun cdv A outer s H vs Q E hr h => ?_)
  · obtain ⟨n, rfl, _⟩ := h
    rfl
  · obtain ⟨n, rfl, hn, q⟩ := h
    refine ⟨_, pss_one (ps_ret (pe_op op_sub (pe_bits (pe_op op_and (pv 0) (pe_un un_neg (pv 0)))) pe_int)), ?_⟩
    refine ⟨_, rfl, _, rfl, n, rfl, n, -n, rfl, rfl, _, rfl, _, 1, rfl, rfl, ?_⟩
    rw [low_bit hn, bits_pow]
    show Q (.int (((v2 n.toNat + 1 : Nat) : Int) - 1)) H
    rw [show (((v2 n.toNat + 1 : Nat) : Int) - 1) = ((v2 n.toNat : Nat) : Int) by omega]
    exact q
def spOddPart : Sp := fun vs H Q _ => ∃ n : Int, vs = [.int n] ∧ 0 < n ∧ Q (.int (n / 2 ^ v2 n.toNat)) H
theorem ok_oddPart {f fT : Addr} {fd fdT : FuncData} {k : Nat} (F : Fun K "odd_part" "odd_part" sOddPart f fd) (FT : Fun K "twos_in" "twos_in" sTwosIn fT fdT) (bT : Binds K fdT ["n"] []) (gT : mg "twos_in" = some (.ref fT)) :
    FnOk P w K mg base CX0 (k + 2) f fd ["n"] spOddPart := by
  have GT : FnOk P w K mg base CX0 (k + 1) fT fdT ["n"] spTwosIn := ok_twosIn FT
  refine F.ok scOddPart (fun vs H Q E h => ?_) (fun cdv A outer s H vs Q E hr h => ?_)
  · obtain ⟨n, rfl, _⟩ := h
    rfl
  · obtain ⟨n, rfl, hn, q⟩ := h
    refine ⟨_, pss_one (ps_ret (pe_op op_shr (pv 0) (pe_call GT hr (by rfl) gT FT.kp bT .nil pass0 (pa_cons (pv 0) pa_nil)))), ?_⟩
    refine ⟨_, rfl, _, rfl, n, rfl, hn, n, _, rfl, rfl, Int.natCast_nonneg _, ?_⟩
    exact q
def spCommon : Sp := fun vs H Q _ => ∃ a b : Nat, vs = [.int a, .int b] ∧ Q (.int (Nat.gcd a b : Nat)) H
theorem ok_common {f : Addr} {fd : FuncData} {k : Nat} (F : Fun K "common_part" "common_part" sCommon f fd) : FnOk P w K mg base CX0 (k + 1) f fd ["a", "b"] spCommon := by
  refine F.ok scCommon (fun vs H Q E h => ?_) (fun cdv A outer s H vs Q E hr h => ?_)
  · obtain ⟨a, b, rfl, _⟩ := h
    rfl
  · obtain ⟨a, b, rfl, q⟩ := h
    refine ⟨_, pss_cons (ps_while PassesOwn.never (pt_cmpR op_gt (pv 1) pe_int (nomark _)) (pss_one (ps_par (i := 0) (j := 1) rfl scCommon.nd rfl rfl (by decide) rfl rfl (pa_cons (pv 1) (pa_cons (pe_op op_mod (pv 0) (pv 1)) pa_nil)) (by rfl))))
      (pss_one (ps_ret (pv 0))), ?_⟩
    refine while_by (fun σ H' => ∃ x y : Nat, σ = [some (.int x), some (.int y)] ∧ H' = H ∧ Nat.gcd x y = Nat.gcd a b) (fun σ _ => match σ with | [_, some (.int y)] => y.toNat | _ => 0) ⟨a, b, rfl, rfl, rfl⟩ ?_ ?_
    · rintro σ H' ⟨x, y, rfl, rfl, hg⟩
      refine ⟨_, rfl, (y : Int), 0, rfl, rfl, _, rfl, ite2 (fun hy => ?_) (fun hy => ?_)⟩
      · have hy' : 0 < y := by have := of_decide_eq_true hy; omega
        refine ⟨_, rfl, _, rfl, _, rfl, (x : Int), (y : Int), rfl, rfl, (by show (0 : Int) < y; omega), _, _, rfl, ⟨y, x % y, ?_, rfl, ?_⟩, ?_⟩
        · rw [Int.natCast_emod]; rfl
        · rw [← hg, Nat.gcd_comm x y, Nat.gcd_rec y x, Nat.gcd_comm]
        · show ((x : Int) % (y : Int)).toNat < (y : Int).toNat
          rw [← Int.natCast_emod]
          have := Nat.mod_lt x hy'
          omega
      · have hy' : y = 0 := by
          have : ¬ (y : Int) > 0 := fun z => hy (decide_eq_true z)
          omega
        subst hy'
        rw [Nat.gcd_zero_right] at hg
        refine ⟨_, rfl, ?_⟩
        rw [hg]
        exact q
    · rintro σ H' Q1 Q2 hq ⟨x, e1, i, j, e2, e3, z, e4, h⟩
      exact ⟨x, e1, i, j, e2, e3, z, e4, hq _ _ h⟩
def Row (H : Hp) (a : Addr) (ns : List Int) : Prop := H a = some (.tup (ns.map V.int)) ∧ (∀ n ∈ ns, 0 ≤ n ∧ n < 2 ^ 250) ∧ ns.length ≤ 40 ∧ ∃ n ∈ ns, 0 < n
theorem Row.same {H H' : Hp} {a : Addr} {ns : List Int} (r : Row H a ns) (s : Same H H') : Row H' a ns := ⟨s _ _ r.1, r.2⟩
theorem Row.pos {H : Hp} {a : Addr} {ns : List Int} (r : Row H a ns) : 0 < gl ns := by
  obtain ⟨_, _, _, n, hn, h0⟩ := r
  exact gl_pos hn h0
theorem Row.lt {H : Hp} {a : Addr} {ns : List Int} (r : Row H a ns) : (gl ns : Int) < 2 ^ 250 := by
  obtain ⟨_, hb, _, n, hn, h0⟩ := r
  exact Int.lt_of_le_of_lt (gl_le hn h0) (hb n hn).2
def spUnit : Sp := fun vs H Q _ => ∃ a ns, vs = [.ref a] ∧ Row H a ns ∧ Q (.int (gl ns : Nat)) H
theorem ok_unit {f fC : Addr} {fd fdC : FuncData} {k : Nat} (F : Fun K "unit" "unit" sUnit f fd) (FC : Fun K "common_part" "common_part" sCommon fC fdC) (bC : Binds K fdC ["a", "b"] []) (gC : mg "common_part" = some (.ref fC)) :
    FnOk P w K mg base CX0 (k + 2) f fd ["row"] spUnit := by
  have GC : FnOk P w K mg base CX0 (k + 1) fC fdC ["a", "b"] spCommon := ok_common FC
  refine F.ok scUnit (fun vs H Q E h => ?_) (fun cdv A outer s H vs Q E hr h => ?_)
  · obtain ⟨a, ns, rfl, _⟩ := h
    rfl
  · obtain ⟨a, ns, rfl, r, q⟩ := h
    refine ⟨_, pss_cons (ps_set (i := 1) scUnit.nd rfl (.inl rfl) pe_int) (pss_cons (ps_for PassesOwn.never rfl (pi_tup (pv 0)) (pg_name (i := 2) scUnit.nd rfl (.inl rfl))
        (pss_one (ps_set (i := 1) scUnit.nd rfl (.inl rfl) (pe_call GC hr (by rfl) gC FC.kp bC .nil pass0 (pa_cons (pv 1) (pa_cons (pv 2) pa_nil))))))
      (pss_one (ps_ret (pv 1)))), ?_⟩
    refine ⟨.ref a, rfl, a, rfl, ⟨_, SqT.of r.1⟩, ?_⟩
    refine for_tup (K := K) (a := a) (xs := ns.map V.int) (fun i σ H' => ∃ y2, σ = [some (.ref a), some (.int (gl (ns.take i) : Nat)), y2] ∧ H' = H) ⟨none, rfl, rfl⟩ ?_ ?_ ?_
    · rintro i σ H' _ ⟨y2, rfl, rfl⟩
      exact SqT.of r.1
    · rintro i x σ H' hx ⟨y2, rfl, rfl⟩
      rw [List.getElem?_map] at hx
      obtain ⟨n, hn, rfl⟩ := Option.map_eq_some_iff.mp hx
      obtain ⟨hi, hn'⟩ := List.getElem?_eq_some_iff.mp hn
      have h0 : 0 ≤ n := (r.2.1 n (List.mem_of_getElem? hn)).1
      refine ⟨_, rfl, _, rfl, gl (ns.take i), n.toNat, by rw [Int.toNat_of_nonneg h0]; rfl, some (.int n), ?_, rfl⟩
      rw [gl_take_succ ns i hi, hn']
      rfl
    · rintro σ H' ⟨y2, rfl, rfl⟩
      rw [List.length_map, List.take_length]
      exact ⟨_, rfl, q⟩
def spMeasure : Sp := fun vs H Q _ => ∃ a ns, vs = [.ref a] ∧ Row H a ns ∧ Q (.int ((gl ns : Nat) / 2 ^ v2 (gl ns))) H
def spTwos : Sp := fun vs H Q _ => ∃ a ns, vs = [.ref a] ∧ Row H a ns ∧ Q (.int (v2 (gl ns) : Nat)) H
theorem ok_measure {f fO fU : Addr} {fd fdO fdU : FuncData} {k : Nat} (F : Fun K "measure" "measure" sMeasure f fd) (FO : Fun K "odd_part" "odd_part" sOddPart fO fdO) (bO : Binds K fdO ["n"] []) (gO : mg "odd_part" = some (.ref fO)) (GO : FnOk P w K mg base CX0 (k + 2) fO fdO ["n"] spOddPart)
    (FU : Fun K "unit" "unit" sUnit fU fdU) (bU : Binds K fdU ["row"] []) (gU : mg "unit" = some (.ref fU)) (GU : FnOk P w K mg base CX0 (k + 2) fU fdU ["row"] spUnit) : FnOk P w K mg base CX0 (k + 3) f fd ["row"] spMeasure := by
  refine F.ok scMeasure (fun vs H Q E h => ?_) (fun cdv A outer s H vs Q E hr h => ?_)
  · obtain ⟨a, ns, rfl, _⟩ := h
    rfl
  · obtain ⟨a, ns, rfl, r, q⟩ := h
    refine ⟨_, pss_one (ps_ret (pe_call GO hr (by rfl) gO FO.kp bO .nil pass0 (pa_cons (pe_call GU hr (by rfl) gU FU.kp bU .nil pass0 (pa_cons (pv 0) pa_nil)) pa_nil))), ?_⟩
    have := r.pos
    refine ⟨_, rfl, a, ns, rfl, r, _, rfl, by omega, ?_⟩
    rw [Int.toNat_natCast]
    exact q
theorem ok_twos {f fT fU : Addr} {fd fdT fdU : FuncData} {k : Nat} (F : Fun K "twos" "twos" sTwos f fd) (FT : Fun K "twos_in" "twos_in" sTwosIn fT fdT) (bT : Binds K fdT ["n"] []) (gT : mg "twos_in" = some (.ref fT)) (GT : FnOk P w K mg base CX0 (k + 1) fT fdT ["n"] spTwosIn)
    (FU : Fun K "unit" "unit" sUnit fU fdU) (bU : Binds K fdU ["row"] []) (gU : mg "unit" = some (.ref fU)) (GU : FnOk P w K mg base CX0 (k + 2) fU fdU ["row"] spUnit) : FnOk P w K mg base CX0 (k + 3) f fd ["row"] spTwos := by
  refine F.ok scTwos (fun vs H Q E h => ?_) (fun cdv A outer s H vs Q E hr h => ?_)
  · obtain ⟨a, ns, rfl, _⟩ := h
    rfl
  · obtain ⟨a, ns, rfl, r, q⟩ := h
    refine ⟨_, pss_one (ps_ret (pe_call GT (hr.mono (by omega)) (by rfl) gT FT.kp bT .nil pass0 (pa_cons (pe_call GU hr (by rfl) gU FU.kp bU .nil pass0 (pa_cons (pv 0) pa_nil)) pa_nil))), ?_⟩
    have := r.pos
    refine ⟨_, rfl, a, ns, rfl, r, _, rfl, by omega, ?_⟩
    rw [Int.toNat_natCast]
    exact q
def spOddOnes : Sp := fun vs H Q _ => ∃ a ns, vs = [.ref a] ∧ Row H a ns ∧ ∀ H', Same H H' → Q (.int ((fewT (v2 (gl ns)) ns).length : Nat)) H'
theorem fewT_succ (t : Nat) (ns : List Int) (i : Nat) (h : i < ns.length) : fewT t (ns.take (i + 1)) = fewT t (ns.take i) ++ (if (decide (ns[i] > 0) && decide (v2 ns[i].toNat ≤ t)) = true then [ns[i]] else []) := by
  unfold fewT
  rw [List.take_add_one, List.getElem?_eq_getElem h, List.filter_append]
  congr 1
  show List.filter _ [ns[i]] = _
  rw [List.filter_cons, List.filter_nil]
theorem ok_oddOnes {f fT fS : Addr} {fd fdT fdS : FuncData} {k : Nat} (F : Fun K "odd_ones" "odd_ones" sOddOnes f fd) (FT : Fun K "twos_in" "twos_in" sTwosIn fT fdT) (bT : Binds K fdT ["n"] []) (gT : mg "twos_in" = some (.ref fT)) (GT : FnOk P w K mg base CX0 (k + 1) fT fdT ["n"] spTwosIn)
    (FS : Fun K "twos" "twos" sTwos fS fdS) (bS : Binds K fdS ["row"] []) (gS : mg "twos" = some (.ref fS)) (GS : FnOk P w K mg base CX0 (k + 3) fS fdS ["row"] spTwos) (ml : mg "len" = none) : FnOk P w K mg base CX0 (k + 4) f fd ["row"] spOddOnes := by
  refine F.ok scOddOnes (fun vs H Q E h => ?_) (fun cdv A outer s H vs Q E hr h => ?_)
  · obtain ⟨a, ns, rfl, _⟩ := h
    rfl
  · obtain ⟨a, ns, rfl, r, q⟩ := h
    have hr1 := hr.mono (show k + 1 ≤ k + 3 by omega)
    refine ⟨_, pss_cons (ps_set (i := 1) scOddOnes.nd rfl (.inr rfl) (pe_call GS hr (by rfl) gS FS.kp bS .nil pass0 (pa_cons (pv 0) pa_nil)))
      (pss_one (ps_ret (pe_callB call_len_seq (by rfl) ml PySem.boot_len (pa_cons
        (pe_lc (own := [("amount", 2)]) (g := gName 2) rfl scOddOnes.nd (pi_tup (pv 0)) (blkOk_by (N := ["row", "fewest_twos", "amount"]) (sc := defScope sOddOnes) (by decide +kernel))
          (fun _ _ _ _ _ => pg_name (i := 2) scOddOnes.nd rfl (Or.inl rfl))
          (fun _ _ _ _ _ => pts_one (PW.pt (pw_and (pt_cmpR op_gt (pv 2) pe_int (nomark _)) (pw_and1 (pt_cmpR op_le (pe_call GT hr1 (by rfl) gT FT.kp bT .nil pass0 (pa_cons (pv 2) pa_nil)) (pv 1) (nomark _))))))
          (fun _ _ _ _ _ => pv 2)) pa_nil)))), ?_⟩
    refine ⟨_, rfl, a, ns, rfl, r, ?_⟩
    refine ⟨.ref a, rfl, a, rfl, ⟨_, SqT.of r.1⟩, fun D nD => ?_⟩
    refine lc_tup (K := K) (a := a) (xs := ns.map V.int) (fun i H' => Same H H' ∧ H' D = some (.lst ((fewT (v2 (gl ns)) (ns.take i)).map V.int))) ⟨same_upd nD, upd_same⟩ ?_ ?_ ?_
    · rintro i H' _ ⟨sm, _⟩
      exact SqT.of (sm _ _ r.1)
    · rintro i x H' hx ⟨sm, hD⟩
      rw [List.getElem?_map] at hx
      obtain ⟨n, hn, rfl⟩ := Option.map_eq_some_iff.mp hx
      obtain ⟨hi, hn'⟩ := List.getElem?_eq_some_iff.mp hn
      have small : ((fewT (v2 (gl ns)) (ns.take i)).map V.int).length < sizeLine := by
        rw [List.length_map]
        refine small1000 (Nat.le_trans (List.length_filter_le _ _) ?_)
        rw [List.length_take]
        have := r.2.2.1
        omega
      refine ⟨rfl, _, rfl, n, 0, rfl, rfl, _, rfl, ite2 (fun h1 => ?_) (fun h1 => ?_)⟩
      · have h1' : 0 < n := of_decide_eq_true h1
        refine ⟨_, rfl, n, rfl, h1', _, rfl, _, _, rfl, rfl, _, rfl, ite2 (fun h2 => ?_) (fun h2 => ?_)⟩
        · have h2' : v2 n.toNat ≤ v2 (gl ns) := by have := of_decide_eq_true h2; omega
          refine ⟨_, rfl, _, hD, small, ?_, ?_⟩
          · intro c o hc
            rw [upd_ne (ne_of_none hc nD)]
            exact sm c o hc
          · rw [upd_same, fewT_succ _ _ _ hi, hn', decide_eq_true h1', decide_eq_true h2', List.map_append]
            rfl
        · have h2' : ¬ v2 n.toNat ≤ v2 (gl ns) := fun z => h2 (decide_eq_true (by omega))
          refine ⟨sm, ?_⟩
          rw [fewT_succ _ _ _ hi, hn', decide_eq_false h2', Bool.and_false, if_neg Bool.false_ne_true, List.append_nil]
          exact hD
      · have h1' : ¬ n > 0 := fun z => h1 (decide_eq_true z)
        refine iteF ⟨sm, ?_⟩
        rw [fewT_succ _ _ _ hi, hn', decide_eq_false h1', Bool.false_and, if_neg Bool.false_ne_true, List.append_nil]
        exact hD
    · rintro H' ⟨sm, hD⟩
      rw [List.length_map, List.take_length] at hD
      refine ⟨D, _, rfl, .inl (SqL.of hD), ?_⟩
      rw [List.length_map]
      exact q H' sm
end
end K56

namespace K56
open PySem PySem.Spec PyProof.Rows L2 MG
abbrev sSplit : Stmt := topS 55
abbrev sPlaces : Stmt := topS 56
theorem scSplit : FnScope ["_law_box_here", "_law_total", "_law_many", "_law_left", "_law_found", "_law_turn_here", "_law_more"] ["_law_box_here", "_law_total", "_law_many"] (defScope sSplit) := ⟨rfl, rfl, rfl, by decide +kernel, rfl, by decide +kernel, by decide +kernel⟩
theorem scPlaces : FnScope ["_law_box_here", "_law_amounts", "_law_nothing", "_law_left", "_law_found"] ["_law_box_here", "_law_amounts", "_law_nothing"] (defScope sPlaces) := ⟨rfl, rfl, rfl, by decide +kernel, rfl, by decide +kernel, by decide +kernel⟩
theorem Box.get {H : Hp} {b : Addr} {n : Nat} (h : Box H b n) : ∃ o, H b = Option.some o := by
  obtain ⟨_, _, _, z, _⟩ := h
  exact ⟨_, z⟩
/-- a change of what is new -/
theorem SX.set {b p : Addr} {H H' : Hp} {o : HO} (x : SX b H H') (hp : H p = none) : SX b H (upd H' p o) := fun a u na e => by
  rw [upd_ne (ne_of_none e hp)]
  exact x a u na e
theorem Box.set {H : Hp} {b p : Addr} {n : Nat} {o : HO} (h : Box H b n) (hp : b ≠ p) : Box (upd H p o) b n := h.at (upd_ne hp)
theorem erase_perm {α : Type} : ∀ (l : List α) (j : Nat) (h : j < l.length), (l[j] :: l.eraseIdx j).Perm l
  | x :: r, 0, _ => List.Perm.refl _
  | x :: r, j + 1, h => by
    have h' : j < r.length := by rw [List.length_cons] at h; omega
    show (r[j] :: x :: r.eraseIdx j).Perm (x :: r)
    exact (List.Perm.swap x r[j] _).trans ((erase_perm r j h').cons x)
theorem map_erase {α β : Type} (f : α → β) : ∀ (l : List α) (j : Nat), (l.map f).eraseIdx j = (l.eraseIdx j).map f
  | [], _ => rfl
  | x :: r, 0 => rfl
  | x :: r, j + 1 => by
    show f x :: (r.map f).eraseIdx j = f x :: (r.eraseIdx j).map f
    rw [map_erase f r j]
theorem dpInts {K : PySem.W.Frag} {H : Hp} : ∀ L : List Int, DpAll K H (L.map V.int) (L.map PyData.int)
  | [] => .nil
  | i :: L => .cons (.int i) (dpInts L)
theorem lay_ints : ∀ L : List Int, PyData.canLayAll0 (L.map PyData.int) = true
  | [] => rfl
  | i :: L => by
    rw [List.map_cons, PyData.canLayAll0, lay_ints L]
    rfl
theorem depth_ints : ∀ L : List Int, PyData.depthAll (L.map PyData.int) = 0
  | [] => rfl
  | i :: L => by
    rw [List.map_cons, PyData.depthAll, depth_ints L]
    rfl
theorem shaped_ints (L : List Int) : SeqAt.shaped (.list (L.map PyData.int)) = true := by
  unfold SeqAt.shaped
  rw [PyData.canLay0, lay_ints, PyData.depth, depth_ints]
  rfl
section
variable {P : Program} {w : World} {K : PySem.W.Frag} {mg : Str → Option Value} {base : Heap}
def spSplit : Sp := fun vs H Q _ => ∃ (b : Addr) (total many : Int) (n : Nat), vs = [.ref b, .int total, .int many] ∧ Box H b n ∧ n ≤ 900000 ∧ 1 ≤ many ∧ many ≤ 20 ∧ many ≤ total ∧ total ≤ 10 ^ 39 ∧
  ∀ p H' (ns : List Int), H p = none → (ns.length : Int) = many → (∀ x ∈ ns, 1 ≤ x ∧ x ≤ total) → Box H' b (n + 20) → SX b H H' → H' p = some (.lst (ns.map V.int)) → Q (.ref p) H'
theorem ok_split {f fT : Addr} {fd fdT : FuncData} {k : Nat} (F : Fun K "_law_split" "_law_split" sSplit f fd)
    (FT : Fun K "_law_take" "_law_take" sTake fT fdT) (bT : Binds K fdT ["_law_box_here", "_law_many"] []) (gT : mg "_law_take" = some (.ref fT)) (mR : mg "range" = none) :
    FnOk P w K mg base CX0 (k + 2) f fd ["_law_box_here", "_law_total", "_law_many"] spSplit := by
  have GT : FnOk P w K mg base CX0 (k + 1) fT fdT ["_law_box_here", "_law_many"] spTake := ok_take FT
  refine F.ok scSplit (fun vs H Q E h => ?_) (fun cdv A outer s H vs Q E hr h => ?_)
  · obtain ⟨b, total, many, n, rfl, _⟩ := h
    rfl
  · obtain ⟨b, total, many, n, rfl, hB, hn, m1, m2, m3, m4, q⟩ := h
    refine ⟨_, pss_cons (ps_par (i := 3) (j := 4) rfl scSplit.nd rfl rfl (by decide) rfl rfl (pa_cons (pe_op op_sub (pv 1) (pv 2)) (pa_cons (pe_lst pa_nil) pa_nil)) (by rfl))
      (pss_cons (ps_for PassesOwn.never rfl (pi_range1 rfl mR (pa_cons (pe_op op_sub (pv 2) pe_int) pa_nil)) (pg_name (i := 5) scSplit.nd rfl (.inl rfl))
        (pss_cons (ps_set (i := 6) scSplit.nd rfl (.inl rfl) (pe_call GT hr (by rfl) gT FT.kp bT .nil pass0 (pa_cons (pv 0) (pa_cons (pe_op op_add (pv 3) pe_int) pa_nil))))
        (pss_cons (ps_set (i := 3) scSplit.nd rfl (.inl rfl) (pe_op op_sub (pv 3) (pv 6)))
        (pss_one (ps_expr (pe_bm PySem.F.plainAttrs_list PySem.F.slot_list_append PySem.F.type_list_append mt_append (pv 4) (pa_cons (pe_op op_add pe_int (pv 6)) pa_nil)))))))
      (pss_one (ps_ret (pe_op op_cat (pv 4) (pe_lst (pa_cons (pe_op op_add pe_int (pv 3)) pa_nil)))))), ?_⟩
    refine ⟨_, rfl, _, rfl, total, many, rfl, rfl, by show 0 ≤ sizeLine; decide, fun fo nfo => ⟨_, _, rfl, ?_⟩⟩
    obtain ⟨bo, bz⟩ := hB.get
    have nbf : b ≠ fo := ne_of_none bz nfo
    refine ⟨_, rfl, many, 1, rfl, rfl, many - 1, rfl, by omega, by omega, ?_⟩
    refine for_range (lo := 0) (n := (many - 1).toNat) (fun i σ H' => ∃ y5 y6, ∃ left : Int, ∃ ns : List Int, σ = [some (.ref b), some (.int total), some (.int many), some (.int left), some (.ref fo), y5, y6] ∧ 0 ≤ left ∧ left ≤ total - many ∧ ns.length = i ∧ (∀ x ∈ ns, 1 ≤ x ∧ x ≤ total) ∧ SX b H H' ∧ Box H' b (n + i) ∧ H' fo = some (.lst (ns.map V.int))) ?_ ?_ ?_
    · exact ⟨none, none, total - many, [], rfl, by omega, by omega, rfl, fun x hx => absurd hx List.not_mem_nil, .of_same (same_upd nfo), hB.set nbf, upd_same⟩
    · rintro i σ H' hi ⟨y5, y6, left, ns, rfl, l0, l1, hl, hx, x', hB', ef⟩
      refine ⟨_, rfl, _, rfl, left, 1, rfl, rfl, b, left + 1, n + i, rfl, hB', by omega, by omega, by omega, fun r H'' r0 r1 hB'' k'' => ?_⟩
      refine ⟨_, rfl, _, rfl, left, r, rfl, rfl, ?_⟩
      refine ⟨_, rfl, .inl ⟨rfl, _, SqL.of (by rw [k'' fo nbf.symm]; exact ef)⟩, _, rfl, 1, r, rfl, rfl, fo, _, _, rfl, rfl, (by rw [k'' fo nbf.symm]; exact ef), ?_, ?_⟩
      · rw [List.length_map, hl]
        exact small1000 (by omega)
      · refine ⟨_, _, left - r, ns ++ [1 + r], rfl, by omega, by omega, by rw [List.length_append, hl]; rfl, ?_, ((x'.trans (.of_eq k'')).set nfo), hB''.set nbf, ?_⟩
        · intro y hy
          rcases List.mem_append.mp hy with hy | hy
          · exact hx y hy
          · rw [List.mem_singleton.mp hy]; omega
        · rw [upd_same, List.map_append]; rfl
    · rintro σ H' ⟨y5, y6, left, ns, rfl, l0, l1, hl, hx, x', hB', ef⟩
      refine ⟨_, rfl, _, rfl, 1, left, rfl, rfl, by show 1 ≤ sizeLine; decide, fun l2 n2 => ?_⟩
      refine ⟨fo, l2, _, _, rfl, rfl, same_upd n2 _ _ ef, upd_same, by rw [List.length_map]; show ns.length + 1 ≤ sizeLine; rw [sizeLine_eq]; omega, fun p np => ?_⟩
      have x2 : SX b H (upd H' l2 (.lst [.int (1 + left)])) := x'.new n2
      have hB2 : Box (upd H' l2 (.lst [.int (1 + left)])) b (n + (many - 1).toNat) := hB'.new n2
      refine q p _ (ns ++ [1 + left]) (x2.free hB2 np) (by rw [List.length_append, hl]; show ((_ + 1 : Nat) : Int) = _; omega) ?_ ((hB2.new np).le (by omega)) (x2.new np) ?_
      · intro y hy
        rcases List.mem_append.mp hy with hy | hy
        · exact hx y hy
        · rw [List.mem_singleton.mp hy]; omega
      · rw [upd_same, List.map_append]; rfl

def spPlaces : Sp := fun vs H Q _ => ∃ (b pa : Addr) (ns : List Int) (k : Int) (n : Nat), vs = [.ref b, .ref pa, .int k] ∧ Box H b n ∧ n ≤ 900000 ∧ (H pa = some (.lst (ns.map V.int)) ∨ H pa = some (.tup (ns.map V.int))) ∧ 0 ≤ k ∧ k ≤ 10 ∧ ns.length ≤ 30 ∧
  ∀ p H' (ms : List Int), H p = none → ms.Perm (ns ++ List.replicate k.toNat 0) → Box H' b (n + 45) → SX b H H' → H' p = some (.tup (ms.map V.int)) → Q (.ref p) H'
theorem ok_places {f fT : Addr} {fd fdT : FuncData} {k : Nat} (F : Fun K "_law_places" "_law_places" sPlaces f fd)
    (FT : Fun K "_law_take" "_law_take" sTake fT fdT) (bT : Binds K fdT ["_law_box_here", "_law_many"] []) (gT : mg "_law_take" = some (.ref fT)) (ml : mg "len" = none) (mL : mg "list" = none) (mT : mg "tuple" = none) :
    FnOk P w K mg base CX0 (k + 2) f fd ["_law_box_here", "_law_amounts", "_law_nothing"] spPlaces := by
  have GT : FnOk P w K mg base CX0 (k + 1) fT fdT ["_law_box_here", "_law_many"] spTake := ok_take FT
  refine F.ok scPlaces (fun vs H Q E h => ?_) (fun cdv A outer s H vs Q E hr h => ?_)
  · obtain ⟨b, pa, ns, k, n, rfl, _⟩ := h
    rfl
  · obtain ⟨b, pa, ns, kk, n, rfl, hB, hn, epa, k0, k1, hl, q⟩ := h
    refine ⟨_, pss_cons (ps_par (i := 3) (j := 4) rfl scPlaces.nd rfl rfl (by decide) rfl rfl (pa_cons (pe_op op_cat (pe_callTy call_list_of (by rfl) mL (by decide +kernel) (pa_cons (pv 1) pa_nil)) (pe_op op_rep (pe_lst (pa_cons pe_int pa_nil)) (pv 2))) (pa_cons (pe_lst pa_nil) pa_nil)) (by rfl))
      (pss_cons (ps_while PassesOwn.never (pt_cmpR (op_neD hr.units) (pv 3) (pe_lst pa_nil) (nomark _))
        (pss_one (ps_expr (pe_bm PySem.F.plainAttrs_list PySem.F.slot_list_append PySem.F.type_list_append mt_append (pv 4) (pa_cons
          (pe_bm PySem.F.plainAttrs_list PySem.F.slot_list_pop PySem.F.type_list_pop mt_popAt (pv 3) (pa_cons (pe_call GT hr (by rfl) gT FT.kp bT .nil pass0 (pa_cons (pv 0) (pa_cons (pe_callB call_len_seq (by rfl) ml PySem.boot_len (pa_cons (pv 3) pa_nil)) pa_nil))) pa_nil)) pa_nil)))))
      (pss_one (ps_ret (pe_callTy call_tuple_of (by rfl) mT (by decide +kernel) (pa_cons (pv 4) pa_nil))))), ?_⟩
    obtain ⟨bo, bz⟩ := hB.get
    refine ⟨_, rfl, pa, ns.map V.int, rfl, epa.elim (fun e => .inl (SqL.of e)) (fun e => .inr (SqT.of e)), fun l1 n1 => ?_⟩
    have s1 : Same H (upd H l1 (.lst (ns.map V.int))) := same_upd n1
    have g1 : upd H l1 (.lst (ns.map V.int)) l1 = some (.lst (ns.map V.int)) := upd_same
    generalize upd H l1 (HO.lst (ns.map V.int)) = H1 at s1 g1 ⊢
    refine ⟨by show 1 ≤ sizeLine; decide, fun l2 n2 => ?_⟩
    have s2 : Same H1 (upd H1 l2 (.lst [.int 0])) := same_upd n2
    refine ⟨_, rfl, l2, kk, [.int 0], rfl, rfl, upd_same, by omega, by omega, by show 1 * kk.toNat ≤ sizeLine; rw [sizeLine_eq]; omega, fun l3 n3 => ?_⟩
    have er : (List.replicate kk.toNat [V.int 0]).flatten = (List.replicate kk.toNat (0 : Int)).map V.int := by
      induction kk.toNat with
      | zero => rfl
      | succ m ih => rw [List.replicate_succ, List.flatten_cons, ih, List.replicate_succ]; rfl
    rw [er]
    have s3 : Same (upd H1 l2 (.lst [.int 0])) (upd (upd H1 l2 (.lst [.int 0])) l3 (.lst ((List.replicate kk.toNat (0 : Int)).map V.int))) := same_upd n3
    have g3 : upd (upd H1 l2 (.lst [.int 0])) l3 (.lst ((List.replicate kk.toNat (0 : Int)).map V.int)) l3 = some (.lst ((List.replicate kk.toNat (0 : Int)).map V.int)) := upd_same
    have S3 := s1.trans (s2.trans s3)
    have g13 := s3 _ _ (s2 _ _ g1)
    generalize upd (upd H1 l2 (.lst [.int 0])) l3 (.lst ((List.replicate kk.toNat (0 : Int)).map V.int)) = H3 at s3 g3 S3 g13 ⊢
    refine ⟨l1, l3, _, _, rfl, rfl, g13, g3, by rw [List.length_map, List.length_map, List.length_replicate, sizeLine_eq]; omega, fun l nl => ?_⟩
    rw [← List.map_append]
    have s4 : Same H3 (upd H3 l (.lst ((ns ++ List.replicate kk.toNat 0).map V.int))) := same_upd nl
    have g4 : upd H3 l (.lst ((ns ++ List.replicate kk.toNat 0).map V.int)) l = some (.lst ((ns ++ List.replicate kk.toNat 0).map V.int)) := upd_same
    have fl : H l = none := S3.free nl
    generalize upd H3 l (.lst ((ns ++ List.replicate kk.toNat 0).map V.int)) = H4 at s4 g4 ⊢
    have S4 := S3.trans s4
    refine ⟨by show 0 ≤ sizeLine; decide, fun fo nfo => ⟨_, _, rfl, ?_⟩⟩
    have ffo : H fo = none := S4.free nfo
    have nlf : l ≠ fo := ne_of_none g4 nfo
    have nbl : b ≠ l := ne_of_none bz fl
    have nbf : b ≠ fo := ne_of_none bz ffo
    have hB5 : Box (upd H4 fo (.lst [])) b n := by
      have := s4.trans (same_upd nfo (o := .lst []))
      have e5 := (S3.trans this) _ _ bz
      exact hB.at (by rw [e5, bz])
    have tot : (ns ++ List.replicate kk.toNat 0).length ≤ 40 := by rw [List.length_append, List.length_replicate]; omega
    generalize hall : ns ++ List.replicate kk.toNat 0 = all at g4 tot q
    refine while_by (fun σ H' => ∃ ls ms : List Int, σ = [some (.ref b), some (.ref pa), some (.int kk), some (.ref l), some (.ref fo)] ∧ (ls ++ ms).Perm all ∧ SX b H H' ∧ Box H' b (n + ms.length) ∧ H' l = some (.lst (ls.map V.int)) ∧ H' fo = some (.lst (ms.map V.int)))
      (fun _ H' => match H' l with | some (.lst xs) => xs.length | _ => 0) ⟨all, [], rfl, by rw [List.append_nil], (SX.of_same S4).new nfo, hB5, by rw [upd_ne nlf]; exact g4, upd_same⟩ ?_ ?_
    · rintro σ H' ⟨ls, ms, rfl, pm, x', hB', el, ef⟩
      have hlen := pm.length_eq
      rw [List.length_append] at hlen
      refine ⟨.ref l, rfl, by show 0 ≤ sizeLine; decide, fun e ne => ?_⟩
      have se : Same H' (upd H' e (.lst [])) := same_upd ne
      have ge : upd H' e (.lst []) e = some (.lst []) := upd_same
      have xe : SX b H (upd H' e (.lst [])) := x'.new ne
      have hBe : Box (upd H' e (.lst [])) b (n + ms.length) := hB'.new ne
      generalize upd H' e (HO.lst []) = G at se ge xe hBe ⊢
      have elG := se _ _ el
      have efG := se _ _ ef
      refine ⟨.list (ls.map PyData.int), .list [], .lst (SqL.of elG) (dpInts ls), .lst (SqL.of ge) .nil, shaped_ints ls, rfl, _, rfl, ?_⟩
      cases ls with
      | nil =>
        refine iteF ?_
        refine ⟨.ref fo, rfl, fo, _, rfl, .inl ⟨SqL.of efG, fun p np => ?_⟩⟩
        refine q p _ ms (xe.free hBe np) pm ((hBe.new np).le ?_) (xe.new np) upd_same
        have : ms.length ≤ 40 := by
          rw [List.length_nil] at hlen
          omega
        omega
      | cons i0 lr =>
        refine iteT ?_
        refine ⟨.ref fo, rfl, .inl ⟨rfl, _, SqL.of efG⟩, .ref l, rfl, .inl ⟨rfl, _, SqL.of elG⟩, .ref b, rfl, .ref l, rfl, l, _, rfl, .inl (SqL.of elG), ?_⟩
        rw [List.length_map]
        refine ⟨b, (((i0 :: lr).length : Nat) : Int), n + ms.length, rfl, hBe, by omega, by rw [List.length_cons]; omega, by omega, fun r H2 r0 r1 hB2 k2 => ?_⟩
        obtain ⟨j, rfl⟩ : ∃ j : Nat, r = (j : Int) := ⟨r.toNat, by omega⟩
        have hj : j < (i0 :: lr).length := by omega
        have el2 : H2 l = some (.lst ((i0 :: lr).map V.int)) := by rw [k2 l nbl.symm]; exact elG
        have ef2 : H2 fo = some (.lst (ms.map V.int)) := by rw [k2 fo nbf.symm]; exact efG
        have x2 : SX b H H2 := xe.trans (.of_eq k2)
        have hix : seqIndex? (j : Int) ((i0 :: lr).map V.int).length = some j := by
          unfold seqIndex?
          rw [List.length_map, if_neg (show ¬ (j : Int) < 0 by omega)]
          show (if (decide (0 ≤ (j : Int)) && decide ((j : Int) < ((i0 :: lr).length : Nat))) = true then some (j : Int).toNat else none) = some j
          rw [decide_eq_true (show 0 ≤ (j : Int) by omega), decide_eq_true (show (j : Int) < ((i0 :: lr).length : Nat) by omega)]
          rfl
        refine ⟨l, _, (j : Int), j, .int (i0 :: lr)[j], rfl, rfl, el2, by omega, by omega, hix, by rw [List.getElem?_map, List.getElem?_eq_getElem hj]; rfl, ?_⟩
        refine ⟨fo, _, _, rfl, rfl, by rw [upd_ne nlf.symm]; exact ef2, by rw [List.length_map]; exact small1000 (by omega), ?_⟩
        refine ⟨⟨(i0 :: lr).eraseIdx j, ms ++ [(i0 :: lr)[j]], rfl, ?_, (x2.set fl).set ffo, ?_, ?_, ?_⟩, ?_⟩
        · refine List.Perm.trans ?_ pm
          have h1 : ((i0 :: lr)[j] :: (i0 :: lr).eraseIdx j).Perm (i0 :: lr) := erase_perm _ j hj
          have h2 : ((i0 :: lr).eraseIdx j ++ (ms ++ [(i0 :: lr)[j]])).Perm ((i0 :: lr)[j] :: ((i0 :: lr).eraseIdx j ++ ms)) := by
            rw [← List.append_assoc]
            exact List.perm_append_comm
          refine h2.trans ?_
          rw [← List.cons_append]
          exact h1.append_right ms
        · rw [List.length_append]
          exact ((hB2.set nbl).set nbf)
        · rw [upd_ne nlf, upd_same, map_erase]
        · rw [upd_same, List.map_append]; rfl
        · show (match upd (upd H2 l _) fo _ l with | some (.lst xs) => xs.length | _ => 0) < (match H' l with | some (.lst xs) => xs.length | _ => 0)
          rw [upd_ne nlf, upd_same, el]
          show (((i0 :: lr).map V.int).eraseIdx j).length < ((i0 :: lr).map V.int).length
          rw [List.length_eraseIdx_of_lt (by rw [List.length_map]; exact hj), List.length_map, List.length_cons]
          omega
    · rintro σ H' Q1 Q2 hq ⟨x, e1, hz, h⟩
      refine ⟨x, e1, hz, fun p np => ?_⟩
      obtain ⟨d, e, a1, a2, a3, a4, z, a5, a6⟩ := h p np
      exact ⟨d, e, a1, a2, a3, a4, z, a5, hq _ _ a6⟩
end
end K56

/-! MG: clauses, zip of tuples in comprehensions, == of rows and of texts -/
namespace MG
open PySem PySem.Spec PyProof.Rows L2
theorem walk_zipT {K : PySem.W.Frag} {a b : Addr} {xs ys : List V} {n : Nat} (hn : n = min xs.length ys.length) :
    Walk (RZ.ItzT K a b) n (fun H => SqT K H a xs ∧ SqT K H b ys) (YPair (fun i => xs[i]?) (fun i => ys[i]?)) := by
  subst hn
  refine ⟨fun i _ hi q => ?_, fun _ q => ⟨xs, ys, q.1, q.2, by omega⟩, fun i H v H' _ q y => ?_⟩
  · have h1 : i < xs.length := by omega
    have h2 : i < ys.length := by omega
    exact ⟨xs, ys, xs[i], ys[i], q.1, q.2, by simp [h1], by simp [h2]⟩
  · obtain ⟨T, x, z, h1, h2, h3, h4, h5⟩ := y
    exact ⟨T, x, z, h1, h2, h3, h4 xs q.1, h5 ys q.2⟩
theorem eqvAll_ints : ∀ a b : List Int, PyData.eqvAll (a.map PyData.int) (b.map PyData.int) = decide (a = b)
  | [], [] => rfl
  | [], _ :: _ => rfl
  | _ :: _, [] => rfl
  | x :: a, y :: b => by
    rw [List.map_cons, List.map_cons, PyData.eqvAll, eqvAll_ints a b]
    show ((x == y) && _) = _
    by_cases h : x = y
    · subst h
      rw [show (x == x) = true from beq_self_eq_true x, Bool.true_and]
      by_cases h2 : a = b
      · rw [h2]; simp
      · rw [decide_eq_false h2, decide_eq_false (fun z => h2 (List.cons.inj z).2)]
    · rw [show (x == y) = false from beq_eq_false_iff_ne.mpr h, decide_eq_false (fun z => h (List.cons.inj z).1)]; rfl
theorem eqv_rows (a b : List Int) : PyData.eqv (.tuple (a.map PyData.int)) (.tuple (b.map PyData.int)) = decide (a = b) := by
  rw [PyData.eqv, eqvAll_ints]
theorem eqvAll_strs : ∀ a b : List Str, PyData.eqvAll (a.map PyData.str) (b.map PyData.str) = decide (a = b)
  | [], [] => rfl
  | [], _ :: _ => rfl
  | _ :: _, [] => rfl
  | x :: a, y :: b => by
    rw [List.map_cons, List.map_cons, PyData.eqvAll, eqvAll_strs a b]
    show ((x == y) && _) = _
    by_cases h : x = y
    · subst h
      rw [show (x == x) = true from beq_self_eq_true x, Bool.true_and]
      by_cases h2 : a = b
      · rw [h2]; simp
      · rw [decide_eq_false h2, decide_eq_false (fun z => h2 (List.cons.inj z).2)]
    · rw [show (x == y) = false from beq_eq_false_iff_ne.mpr h, decide_eq_false (fun z => h (List.cons.inj z).1)]; rfl
theorem eqv_strs (a b : List Str) : PyData.eqv (.tuple (a.map PyData.str)) (.tuple (b.map PyData.str)) = decide (a = b) := by
  rw [PyData.eqv, eqvAll_strs]
theorem dpIntsG {K : PySem.W.Frag} {H : Hp} : ∀ L : List Int, DpAll K H (L.map V.int) (L.map PyData.int)
  | [] => .nil
  | i :: L => .cons (.int i) (dpIntsG L)
theorem dpStrsG {K : PySem.W.Frag} {H : Hp} : ∀ L : List Str, DpAll K H (L.map V.str) (L.map PyData.str)
  | [] => .nil
  | i :: L => .cons (.str i) (dpStrsG L)
theorem lay_intsG : ∀ L : List Int, PyData.canLayAll0 (L.map PyData.int) = true
  | [] => rfl
  | i :: L => by rw [List.map_cons, PyData.canLayAll0, lay_intsG L]; rfl
theorem lay_strsG : ∀ L : List Str, (∀ x ∈ L, PyData.canLay0 (.str x) = true) → PyData.canLayAll0 (L.map PyData.str) = true
  | [], _ => rfl
  | i :: L, h => by rw [List.map_cons, PyData.canLayAll0, lay_strsG L fun x hx => h x (List.mem_cons_of_mem _ hx), h i List.mem_cons_self]; rfl
theorem depth_intsG : ∀ L : List Int, PyData.depthAll (L.map PyData.int) = 0
  | [] => rfl
  | i :: L => by rw [List.map_cons, PyData.depthAll, depth_intsG L]; rfl
theorem depth_strsG : ∀ L : List Str, PyData.depthAll (L.map PyData.str) = 0
  | [] => rfl
  | i :: L => by rw [List.map_cons, PyData.depthAll, depth_strsG L]; rfl
theorem shapedT_ints (L : List Int) : SeqAt.shaped (.tuple (L.map PyData.int)) = true := by
  unfold SeqAt.shaped
  rw [PyData.canLay0, lay_intsG, PyData.depth, depth_intsG]
  rfl
theorem shapedT_strs (L : List Str) (h : ∀ x ∈ L, PyData.canLay0 (.str x) = true) : SeqAt.shaped (.tuple (L.map PyData.str)) = true := by
  unfold SeqAt.shaped
  rw [PyData.canLay0, lay_strsG L h, PyData.depth, depth_strsG]
  rfl
/-! ### those who have something -/
def hold (ns : List Int) (i : Nat) : List Int := ((List.range i).filter fun j => decide (0 < ns.getD j 0)).map fun (j : Nat) => (j : Int)
theorem hold_succ (ns : List Int) (i : Nat) : hold ns (i + 1) = hold ns i ++ (if 0 < ns.getD i 0 then [(i : Int)] else []) := by
  unfold hold
  rw [List.range_succ, List.filter_append, List.map_append]
  congr 1
  by_cases h : 0 < ns.getD i 0
  · rw [if_pos h, List.filter_cons_of_pos (by simpa using h)]; rfl
  · rw [if_neg h, List.filter_cons_of_neg (by simpa using h)]; rfl
theorem hold_len (ns : List Int) (i : Nat) : (hold ns i).length ≤ i := by
  unfold hold
  rw [List.length_map]
  exact Nat.le_trans (List.length_filter_le _ _) (by rw [List.length_range]; exact Nat.le_refl _)
theorem hold_count (ns : List Int) : ∀ i, i ≤ ns.length → (hold ns i).length = ((ns.take i).filter fun n => decide (0 < n)).length
  | 0, _ => by rw [List.take_zero]; rfl
  | i + 1, h => by
    have hi : i < ns.length := h
    rw [hold_succ, List.length_append, hold_count ns i (by omega), List.take_add_one, List.getElem?_eq_getElem hi, List.filter_append, List.length_append]
    congr 1
    have e : ns.getD i 0 = ns[i] := by rw [List.getD_eq_getElem?_getD, List.getElem?_eq_getElem hi]; rfl
    rw [e]
    show _ = (List.filter _ [ns[i]]).length
    by_cases z : 0 < ns[i]
    · rw [if_pos z, List.filter_cons_of_pos (by simpa using z)]; rfl
    · rw [if_neg z, List.filter_cons_of_neg (by simpa using z)]; rfl
theorem hold_all (ns : List Int) : (hold ns ns.length).length = (ns.filter fun n => decide (0 < n)).length := by
  rw [hold_count ns _ (Nat.le_refl _), List.take_length]
/-! ### the clauses -/
def hfn (r o : List Int) : Bool := (r.zip o).any fun p => decide (p.1 = 0) && decide (p.2 > 0)
def ms (r : List Int) : Int := (gl r : Nat) / 2 ^ v2 (gl r)
def od (r : List Int) : Nat := (fewT (v2 (gl r)) r).length
def asked (r o : List Int) : List (Str × Bool) :=
  [("sum", decide (o.sum ≠ r.sum)), ("nothing", hfn r o), ("measure", decide (ms o ≠ ms r)), ("twos", decide (v2 (gl o) < v2 (gl r))),
   ("odd ones", decide (v2 (gl o) = v2 (gl r)) && decide (od r < od o)), ("doubled", decide (v2 (gl o) = v2 (gl r)) && decide (od o = (hold o o.length).length))]
def clausesOf (r o : List Int) : List Str := ((asked r o).filter fun p => p.2).map fun p => p.1
def brkT (r o : List Int) : List Str := if r = o then [] else if r.length ≠ o.length then ["places"] else clausesOf r o
def PairsAt (H : Hp) (ts : List Addr) (cs : List (Str × Bool)) : Prop := ts.length = cs.length ∧ ∀ (i : Nat) (t : Addr) (c : Str × Bool), ts[i]? = some t → cs[i]? = some c → H t = some (.tup [.str c.1, .bl c.2])
theorem PairsAt.same {H H' : Hp} {ts : List Addr} {cs : List (Str × Bool)} (h : PairsAt H ts cs) (s : Same H H') : PairsAt H' ts cs := ⟨h.1, fun i t c a b => s _ _ (h.2 i t c a b)⟩
theorem PairsAt.nil {H : Hp} : PairsAt H [] [] := ⟨rfl, fun i t c h => by cases h⟩
theorem PairsAt.cons {H : Hp} {t : Addr} {c : Str × Bool} {ts : List Addr} {cs : List (Str × Bool)} (e : H t = some (.tup [.str c.1, .bl c.2])) (h : PairsAt H ts cs) : PairsAt H (t :: ts) (c :: cs) := by
  refine ⟨by rw [List.length_cons, List.length_cons, h.1], fun i t' c' h1 h2 => ?_⟩
  cases i with
  | zero => cases h1; cases h2; exact e
  | succ i => exact h.2 i t' c' h1 h2
end MG

/-! MG: comprehensions of two clauses over tuples; deeds -/
namespace MG
open PySem PySem.Spec PyProof.Rows L2
/-- over a tuple place by place: Do goes on to what is wanted ahead of the next place -/
theorem by_place {K : PySem.W.Frag} {a : Addr} {xs : List V} {Do : (Hp → Prop) → V → Hp → Prop} {H0 : Hp} {Q : Hp → Prop} (Pv : Nat → Hp → Prop) (h0 : Pv 0 H0)
    (hl : ∀ i H, i ≤ xs.length → Pv i H → SqT K H a xs) (hs : ∀ i x H, xs[i]? = some x → Pv i H → Do (Pv (i + 1)) x H) (hd : ∀ H, Pv xs.length H → Q H) :
    ∃ W : Nat → Nat → Hp → Prop, (∃ m, W 0 m H0) ∧ ∀ i m H, W i m H → ((Itt K a).stop i H ∧ Q H) ∨
      ((Itt K a).go i H ∧ ∃ N : Hp → Prop, (∀ H', N H' → ∃ m', m' < m ∧ W (i + 1) m' H') ∧ ∀ x H', (Itt K a).yld i H x H' → Do N x H') := by
  refine ⟨fun i m H => i + m = xs.length ∧ Pv i H, ⟨xs.length, Nat.zero_add _, h0⟩, fun i m H h => ?_⟩
  match m, h with
  | 0, ⟨e, p⟩ =>
    rw [Nat.add_zero] at e
    exact .inl ⟨⟨xs, hl i H (Nat.le_of_eq e) p, Nat.le_of_eq e.symm⟩, hd H (by rw [← e]; exact p)⟩
  | m + 1, ⟨e, p⟩ =>
    have lt : i < xs.length := by omega
    have at_ := hl i H (Nat.le_of_lt lt) p
    refine .inr ⟨⟨xs, xs[i], at_, List.getElem?_eq_getElem lt⟩, Pv (i + 1), fun H' p' => ⟨m, Nat.lt_succ_self m, by omega, p'⟩, ?_⟩
    rintro x H' ⟨rfl, tells⟩
    exact hs i x H' (tells xs at_) p
theorem lc2_tup {K : PySem.W.Frag} {a : Addr} {xs : List V} {g g1 : TG} {tt tt1 : TT} {wi1 : TI} {te : TE} {vs vs1 : List Nat} {σ : L2.St} {H1 : Hp} {D : Addr} {Qd : Hp → Prop} (Pv : Nat → Hp → Prop) (h0 : Pv 0 (upd H1 D (.lst [])))
    (hl : ∀ i H, i ≤ xs.length → Pv i H → SqT K H a xs)
    (hs : ∀ i x H, xs[i]? = some x → Pv i H → g x (wipe σ vs) H fun σ2 H2 => wipe σ2 vs = wipe σ vs ∧ tt σ2 H2 fun b H3 =>
      if b = true then wi1 σ2 H3 fun J1 H4 => ∃ W1 : Nat → Nat → Hp → Prop, (∃ m, W1 0 m H4) ∧ ∀ j k H, W1 j k H →
        (J1.stop j H ∧ Pv (i + 1) H) ∨ (J1.go j H ∧ ∃ Nx1 : Hp → Prop, (∀ H', Nx1 H' → ∃ k', k' < k ∧ W1 (j + 1) k' H') ∧ ∀ x H', J1.yld j H x H' → g1 x (wipe σ2 vs1) H' fun σ3 H5 => wipe σ3 vs1 = wipe σ2 vs1 ∧ tt1 σ3 H5 fun b H6 =>
          if b = true then te σ3 H6 fun y H7 => ∃ acc, H7 D = some (.lst acc) ∧ acc.length < sizeLine ∧ Nx1 (upd H7 D (.lst (acc ++ [y]))) else Nx1 H6)
      else Pv (i + 1) H3) (hd : ∀ H, Pv xs.length H → Qd H) :
    ∃ W : Nat → Nat → Hp → Prop, (∃ m, W 0 m (upd H1 D (.lst []))) ∧ ∀ i m H, W i m H →
      ((Itt K a).stop i H ∧ Qd H) ∨ ((Itt K a).go i H ∧ ∃ Nx : Hp → Prop, (∀ H', Nx H' → ∃ m', m' < m ∧ W (i + 1) m' H') ∧ ∀ x H', (Itt K a).yld i H x H' → g x (wipe σ vs) H' fun σ2 H2 => wipe σ2 vs = wipe σ vs ∧ tt σ2 H2 fun b H3 =>
        if b = true then wi1 σ2 H3 fun J1 H4 => ∃ W1 : Nat → Nat → Hp → Prop, (∃ m, W1 0 m H4) ∧ ∀ j k H, W1 j k H →
          (J1.stop j H ∧ Nx H) ∨ (J1.go j H ∧ ∃ Nx1 : Hp → Prop, (∀ H', Nx1 H' → ∃ k', k' < k ∧ W1 (j + 1) k' H') ∧ ∀ x H', J1.yld j H x H' → g1 x (wipe σ2 vs1) H' fun σ3 H5 => wipe σ3 vs1 = wipe σ2 vs1 ∧ tt1 σ3 H5 fun b H6 =>
            if b = true then te σ3 H6 fun y H7 => ∃ acc, H7 D = some (.lst acc) ∧ acc.length < sizeLine ∧ Nx1 (upd H7 D (.lst (acc ++ [y]))) else Nx1 H6)
        else Nx H3) := by
  exact by_place Pv h0 hl hs hd
theorem in_tup {K : PySem.W.Frag} {a : Addr} {xs : List V} {g1 : TG} {tt1 : TT} {te : TE} {vs1 : List Nat} {σ2 : L2.St} {H4 : Hp} {D : Addr} {Nx : Hp → Prop} (Pv : Nat → Hp → Prop) (h0 : Pv 0 H4)
    (hl : ∀ i H, i ≤ xs.length → Pv i H → SqT K H a xs)
    (hs : ∀ j x H, xs[j]? = some x → Pv j H → g1 x (wipe σ2 vs1) H fun σ3 H5 => wipe σ3 vs1 = wipe σ2 vs1 ∧ tt1 σ3 H5 fun b H6 =>
      if b = true then te σ3 H6 fun y H7 => ∃ acc, H7 D = some (.lst acc) ∧ acc.length < sizeLine ∧ Pv (j + 1) (upd H7 D (.lst (acc ++ [y]))) else Pv (j + 1) H6) (hd : ∀ H, Pv xs.length H → Nx H) :
    ∃ W1 : Nat → Nat → Hp → Prop, (∃ m, W1 0 m H4) ∧ ∀ j k H, W1 j k H →
      ((Itt K a).stop j H ∧ Nx H) ∨ ((Itt K a).go j H ∧ ∃ Nx1 : Hp → Prop, (∀ H', Nx1 H' → ∃ k', k' < k ∧ W1 (j + 1) k' H') ∧ ∀ x H', (Itt K a).yld j H x H' → g1 x (wipe σ2 vs1) H' fun σ3 H5 => wipe σ3 vs1 = wipe σ2 vs1 ∧ tt1 σ3 H5 fun b H6 =>
        if b = true then te σ3 H6 fun y H7 => ∃ acc, H7 D = some (.lst acc) ∧ acc.length < sizeLine ∧ Nx1 (upd H7 D (.lst (acc ++ [y]))) else Nx1 H6) := by
  exact by_place Pv h0 hl hs hd
/-! ### a deed -/
def deed (r : List Int) (i j : Nat) : List Int := (r.set i (r.getD i 0 - r.getD j 0)).set j (2 * r.getD j 0)
structure MayG (r : List Int) (i j : Nat) : Prop where
  hi : i < r.length
  hj : j < r.length
  ne : i ≠ j
  pj : 0 < r.getD j 0
  ge : r.getD j 0 ≤ r.getD i 0
theorem getD_eq {r : List Int} {i : Nat} (h : i < r.length) : r.getD i 0 = r[i] := by
  rw [List.getD_eq_getElem?_getD, List.getElem?_eq_getElem h]; rfl
theorem sum_setG : ∀ (l : List Int) (j : Nat) (h : j < l.length) (v : Int), (l.set j v).sum = l.sum - l[j] + v
  | x :: r, 0, _, v => by
    rw [List.set_cons_zero, List.sum_cons, List.sum_cons]
    show v + r.sum = x + r.sum - x + v
    omega
  | x :: r, j + 1, h, v => by
    have h' : j < r.length := by rw [List.length_cons] at h; omega
    rw [List.set_cons_succ, List.sum_cons, List.sum_cons, sum_setG r j h' v]
    show _ = x + r.sum - r[j] + v
    omega
theorem deed_len (r : List Int) (i j : Nat) : (deed r i j).length = r.length := by
  unfold deed
  rw [List.length_set, List.length_set]
/-- what is added up over a row, place by place -/
theorem sum_deed {r : List Int} {i j : Nat} (h : MayG r i j) (f : Int → Int) : ((deed r i j).map f).sum = (r.map f).sum - f r[i]! - f r[j]! + f (r[i]! - r[j]!) + f (2 * r[j]!) := by
  have hi := h.hi
  have hj := h.hj
  have ei : r[i]! = r[i] := by rw [List.getElem!_eq_getElem?_getD, List.getElem?_eq_getElem hi]; rfl
  have ej : r[j]! = r[j] := by rw [List.getElem!_eq_getElem?_getD, List.getElem?_eq_getElem hj]; rfl
  unfold deed
  rw [getD_eq hi, getD_eq hj, ei, ej, List.map_set, List.map_set]
  rw [sum_setG _ j (by rw [List.length_set, List.length_map]; exact hj), sum_setG _ i (by rw [List.length_map]; exact hi)]
  rw [List.getElem_set_ne h.ne, List.getElem_map, List.getElem_map]
  omega
theorem deed_sum {r : List Int} {i j : Nat} (h : MayG r i j) : (deed r i j).sum = r.sum := by
  have := sum_deed h id
  rw [List.map_id, List.map_id] at this
  simp only [id] at this
  omega
theorem deed_mem {r : List Int} {i j : Nat} (h : MayG r i j) {n : Int} (hn : n ∈ deed r i j) : n ∈ r ∨ n = r.getD i 0 - r.getD j 0 ∨ n = 2 * r.getD j 0 := by
  unfold deed at hn
  rcases List.mem_or_eq_of_mem_set hn with hn | hn
  · rcases List.mem_or_eq_of_mem_set hn with hn | hn
    · exact .inl hn
    · exact .inr (.inl hn)
  · exact .inr (.inr hn)
theorem deed_get {r : List Int} {i j : Nat} (h : MayG r i j) (p : Nat) : (deed r i j).getD p 0 = if p = j then 2 * r.getD j 0 else if p = i then r.getD i 0 - r.getD j 0 else r.getD p 0 := by
  have hi := h.hi
  have hj := h.hj
  unfold deed
  rw [List.getD_eq_getElem?_getD]
  by_cases e1 : p = j
  · subst e1
    rw [if_pos rfl, List.getElem?_set_self (by rw [List.length_set]; exact hj)]
    rfl
  · rw [if_neg e1, List.getElem?_set_ne (Ne.symm e1)]
    by_cases e2 : p = i
    · subst e2
      rw [if_pos rfl, List.getElem?_set_self hi]
      rfl
    · rw [if_neg e2, List.getElem?_set_ne (Ne.symm e2), ← List.getD_eq_getElem?_getD]
theorem gl_all {l : List Int} {d : Nat} (h : ∀ n ∈ l, d ∣ n.toNat) : d ∣ gl l := by
  induction l with
  | nil => exact Nat.dvd_zero _
  | cons x t ih =>
    rw [gl]
    exact Nat.dvd_gcd (h x List.mem_cons_self) (ih fun n hn => h n (List.mem_cons_of_mem _ hn))
theorem getD_mem {r : List Int} {i : Nat} (h : i < r.length) : r.getD i 0 ∈ r := by
  rw [getD_eq h]; exact List.getElem_mem h
/-- the unit stays, or becomes twice as great -/
theorem deed_unit {r : List Int} {i j : Nat} (h : MayG r i j) (hn : ∀ n ∈ r, 0 ≤ n) : gl (deed r i j) = gl r ∨ gl (deed r i j) = 2 * gl r := by
  have hi := getD_mem h.hi
  have hj := getD_mem h.hj
  have pj := h.pj
  have ge := h.ge
  have g0 : 0 < gl r := gl_pos hj pj
  have up : gl r ∣ gl (deed r i j) := gl_all fun n hm => by
    rcases deed_mem h hm with hm | rfl | rfl
    · exact gl_dvd hm
    · rw [show (r.getD i 0 - r.getD j 0).toNat = (r.getD i 0).toNat - (r.getD j 0).toNat by omega]
      exact Nat.dvd_sub (gl_dvd hi) (gl_dvd hj)
    · rw [Int.toNat_mul (by decide) (by omega)]
      exact Nat.dvd_mul_left_of_dvd (gl_dvd hj) 2
  have m2 : 2 * r.getD j 0 ∈ deed r i j := by
    have := deed_get h j
    rw [if_pos rfl] at this
    rw [← this]
    exact getD_mem (by rw [deed_len]; exact h.hj)
  have m1 : r.getD i 0 - r.getD j 0 ∈ deed r i j := by
    have := deed_get h i
    rw [if_neg h.ne, if_pos rfl] at this
    rw [← this]
    exact getD_mem (by rw [deed_len]; exact h.hi)
  have down : gl (deed r i j) ∣ 2 * gl r := by
    have e : 2 * gl r = gl (r.map fun n => 2 * n) := (gl_mul 2 (by decide) hn).symm
    rw [e]
    refine gl_all fun n hm => ?_
    obtain ⟨x, hx, rfl⟩ := List.mem_map.mp hm
    obtain ⟨p, hp, rfl⟩ := List.getElem_of_mem hx
    have d2 : gl (deed r i j) ∣ 2 * (r.getD j 0).toNat := by
      have := gl_dvd m2
      rw [Int.toNat_mul (by decide) (by omega)] at this
      exact this
    have ex : ∀ x : Int, 0 ≤ x → (2 * x).toNat = 2 * x.toNat := fun x hx => by omega
    by_cases e1 : p = j
    · subst e1
      rw [ex _ (hn _ (List.getElem_mem hp)), ← getD_eq hp]
      exact d2
    · by_cases e2 : p = i
      · subst e2
        rw [ex _ (hn _ (List.getElem_mem hp)), ← getD_eq hp]
        have d1 := gl_dvd m1
        have e3 : 2 * (r.getD p 0).toNat = 2 * (r.getD p 0 - r.getD j 0).toNat + 2 * (r.getD j 0).toNat := by omega
        rw [e3]
        exact Nat.dvd_add (Nat.dvd_mul_left_of_dvd d1 2) d2
      · have := deed_get h p
        rw [if_neg e1, if_neg e2] at this
        have d3 : gl (deed r i j) ∣ (r.getD p 0).toNat := by
          rw [← this]
          exact gl_dvd (getD_mem (by rw [deed_len]; exact hp))
        rw [ex _ (hn _ (List.getElem_mem hp)), ← getD_eq hp]
        exact Nat.dvd_mul_left_of_dvd d3 2
  obtain ⟨c, hc⟩ := up
  rw [hc, Nat.mul_comm 2 (gl r)] at down
  have : c ∣ 2 := Nat.dvd_of_mul_dvd_mul_left g0 down
  have le2 := Nat.le_of_dvd (by decide) this
  rcases (show c = 0 ∨ c = 1 ∨ c = 2 by omega) with h0 | h1 | h2
  · rw [h0] at this
    exact absurd (Nat.eq_zero_of_zero_dvd this) (by decide)
  · left; rw [hc, h1, Nat.mul_one]
  · right; rw [hc, h2, Nat.mul_comm]
/-! ### counts as sums -/
def oddF (t : Nat) (n : Int) : Int := if n % 2 ^ (t + 1) = 0 then 0 else 1
def posF (n : Int) : Int := if 0 < n then 1 else 0
theorem oddF_iff (t : Nat) {n : Int} (h : 0 ≤ n) : (decide (n > 0) && decide (v2 n.toNat ≤ t)) = decide (oddF t n = 1) := by
  unfold oddF
  have e : n % 2 ^ (t + 1) = 0 ↔ 2 ^ (t + 1) ∣ n.toNat := by
    have e1 : n % 2 ^ (t + 1) = ((n.toNat % 2 ^ (t + 1) : Nat) : Int) := by
      rw [Int.natCast_emod, Int.toNat_of_nonneg h, Int.natCast_pow]; rfl
    rw [e1]
    constructor
    · intro z
      exact Nat.dvd_of_mod_eq_zero (by omega)
    · intro z
      rw [Nat.mod_eq_zero_of_dvd z]; rfl
  by_cases h0 : n > 0
  · rw [decide_eq_true h0, Bool.true_and]
    have k := pow_dvd_iff (n := n.toNat) (k := t + 1) (by omega)
    by_cases z : n % 2 ^ (t + 1) = 0
    · rw [if_pos z, decide_eq_false (by have := k.mp (e.mp z); omega)]; rfl
    · rw [if_neg z, decide_eq_true (Nat.le_of_not_lt fun y => z (e.mpr (k.mpr y)))]; rfl
  · have : n = 0 := by omega
    subst this
    rw [decide_eq_false h0, if_pos (Int.zero_emod _)]; rfl
theorem few_sum (t : Nat) : ∀ {l : List Int}, (∀ n ∈ l, 0 ≤ n) → ((fewT t l).length : Int) = (l.map (oddF t)).sum
  | [], _ => rfl
  | x :: l, h => by
    have ih := few_sum t (l := l) fun n hn => h n (List.mem_cons_of_mem _ hn)
    have k := oddF_iff t (h x List.mem_cons_self)
    have v : oddF t x = 0 ∨ oddF t x = 1 := by unfold oddF; split <;> simp
    rw [List.map_cons, List.sum_cons, ← ih]
    unfold fewT at ih ⊢
    rcases v with v | v
    · rw [List.filter_cons_of_neg (by rw [k, v]; decide), v]; omega
    · rw [List.filter_cons_of_pos (by rw [k, v]; decide), v, List.length_cons]; omega
theorem pos_sum : ∀ l : List Int, ((l.filter fun n => decide (0 < n)).length : Int) = (l.map posF).sum
  | [] => rfl
  | x :: l => by
    have ih := pos_sum l
    rw [List.map_cons, List.sum_cons, ← ih]
    unfold posF
    by_cases h : 0 < x
    · rw [List.filter_cons_of_pos (by simpa using h), if_pos h, List.length_cons]; omega
    · rw [List.filter_cons_of_neg (by simpa using h), if_neg h]; omega
theorem sum_le_of {f g : Int → Int} : ∀ {l : List Int}, (∀ n ∈ l, f n ≤ g n) → (l.map f).sum ≤ (l.map g).sum
  | [], _ => Int.le_refl _
  | x :: l, h => by
    have := sum_le_of (f := f) (g := g) (l := l) fun n hn => h n (List.mem_cons_of_mem _ hn)
    have := h x List.mem_cons_self
    rw [List.map_cons, List.map_cons, List.sum_cons, List.sum_cons]; omega
theorem sum_lt_of {f g : Int → Int} : ∀ {l : List Int}, (∀ n ∈ l, f n ≤ g n) → (∃ n ∈ l, f n < g n) → (l.map f).sum < (l.map g).sum
  | [], _, h => by obtain ⟨n, hn, _⟩ := h; cases hn
  | x :: l, h, ⟨n, hn, hlt⟩ => by
    rw [List.map_cons, List.map_cons, List.sum_cons, List.sum_cons]
    have hx := h x List.mem_cons_self
    have hl := sum_le_of (f := f) (g := g) (l := l) fun n hn => h n (List.mem_cons_of_mem _ hn)
    rcases List.mem_cons.mp hn with e | hn
    · subst e; omega
    · have := sum_lt_of (f := f) (g := g) (l := l) (fun n hn => h n (List.mem_cons_of_mem _ hn)) ⟨n, hn, hlt⟩
      omega
/-! ### what one deed or more leave -/
structure Lv (r o : List Int) : Prop where
  len : o.length = r.length
  sum : o.sum = r.sum
  noth : ∀ p, r.getD p 0 = 0 → o.getD p 0 = 0
  ms : MG.ms o = MG.ms r
  tw : v2 (gl r) ≤ v2 (gl o)
  od : v2 (gl o) = v2 (gl r) → MG.od o ≤ MG.od r
  dbl : v2 (gl o) = v2 (gl r) → MG.od o < (hold o o.length).length
  nn : ∀ n ∈ o, 0 ≤ n
theorem Lv.trans {r m o : List Int} (a : Lv r m) (b : Lv m o) : Lv r o := by
  refine ⟨b.len.trans a.len, b.sum.trans a.sum, fun p h => b.noth p (a.noth p h), b.ms.trans a.ms, Nat.le_trans a.tw b.tw, fun e => ?_, fun e => ?_, b.nn⟩
  · have h1 := a.tw
    have h2 := b.tw
    exact Nat.le_trans (b.od (by omega)) (a.od (by omega))
  · have h1 := a.tw
    have h2 := b.tw
    exact b.dbl (by omega)
theorem hfn_of {r o : List Int} (h : ∀ p, r.getD p 0 = 0 → o.getD p 0 = 0) : hfn r o = false := by
  unfold hfn
  rw [List.any_eq_false]
  rintro ⟨x, y⟩ hm
  obtain ⟨p, hp, e⟩ := List.getElem_of_mem hm
  rw [List.length_zip] at hp
  rw [List.getElem_zip] at e
  have e1 : r[p] = x := congrArg Prod.fst e
  have e2 : o[p] = y := congrArg Prod.snd e
  have := h p
  rw [getD_eq (by omega), getD_eq (by omega), e1, e2] at this
  intro z
  simp only [Bool.and_eq_true, decide_eq_true_eq] at z
  have := this z.1
  omega
theorem Lv.clauses {r o : List Int} (h : Lv r o) : MG.clausesOf r o = [] := by
  unfold MG.clausesOf asked
  rw [hfn_of h.noth, h.sum, h.ms]
  rw [decide_eq_false (show ¬ (r.sum ≠ r.sum) from fun z => z rfl), decide_eq_false (show ¬ (MG.ms r ≠ MG.ms r) from fun z => z rfl), decide_eq_false (show ¬ v2 (gl o) < v2 (gl r) by have := h.tw; omega)]
  by_cases e : v2 (gl o) = v2 (gl r)
  · have h1 := h.od e
    have h2 := h.dbl e
    rw [decide_eq_false (show ¬ MG.od r < MG.od o by omega), decide_eq_false (show ¬ MG.od o = (hold o o.length).length by omega), Bool.and_false]
    rfl
  · rw [decide_eq_false e]
    rfl
theorem Lv.brk {r o : List Int} (h : Lv r o) : brkT r o = [] := by
  unfold brkT
  split
  · rfl
  · rw [if_neg (by rw [h.len]; exact fun z => z rfl), h.clauses]
theorem ms_of {g g' : Nat} (h0 : 0 < g) (h : g' = g ∨ g' = 2 * g) : ((g' : Int) / 2 ^ v2 g' = (g : Int) / 2 ^ v2 g) ∧ v2 g ≤ v2 g' := by
  rcases h with rfl | rfl
  · exact ⟨rfl, Nat.le_refl _⟩
  · rw [v2_mul2 (by omega)]
    refine ⟨?_, by omega⟩
    have e1 : (((2 * g : Nat) : Int) / 2 ^ (v2 g + 1)) = ((2 * g / 2 ^ (v2 g + 1) : Nat) : Int) := by rw [Int.natCast_ediv, Int.natCast_pow]; rfl
    have e2 : ((g : Int) / 2 ^ v2 g) = ((g / 2 ^ v2 g : Nat) : Int) := by rw [Int.natCast_ediv, Int.natCast_pow]; rfl
    rw [e1, e2, Nat.pow_succ, Nat.mul_comm (2 ^ v2 g) 2, Nat.mul_div_mul_left _ _ (by decide)]
theorem deed_nn {r : List Int} {i j : Nat} (h : MayG r i j) (hn : ∀ n ∈ r, 0 ≤ n) : ∀ n ∈ deed r i j, 0 ≤ n := by
  intro n hm
  have := h.ge
  have := h.pj
  rcases deed_mem h hm with hm | rfl | rfl
  · exact hn n hm
  · omega
  · omega
theorem deed_lv {r : List Int} {i j : Nat} (h : MayG r i j) (hn : ∀ n ∈ r, 0 ≤ n) : Lv r (deed r i j) := by
  have g0 : 0 < gl r := gl_pos (getD_mem h.hj) h.pj
  have hu := deed_unit h hn
  have hnn := deed_nn h hn
  obtain ⟨m1, m2⟩ := ms_of g0 hu
  have m2j : 2 * r.getD j 0 ∈ deed r i j := by
    have := deed_get h j
    rw [if_pos rfl] at this
    rw [← this]
    exact getD_mem (by rw [deed_len]; exact h.hj)
  have hi := h.hi
  have hj := h.hj
  have ei : r[i]! = r.getD i 0 := by rw [List.getElem!_eq_getElem?_getD, List.getD_eq_getElem?_getD]; rfl
  have ej : r[j]! = r.getD j 0 := by rw [List.getElem!_eq_getElem?_getD, List.getD_eq_getElem?_getD]; rfl
  have dv : ∀ n ∈ r, (2 : Int) ^ v2 (gl r) ∣ n := fun n hm => by
    have h1 : 2 ^ v2 (gl r) ∣ n.toNat := Nat.dvd_trans (pow_v2_dvd _) (gl_dvd hm)
    have h2 := Int.natCast_dvd_natCast.mpr h1
    rw [Int.toNat_of_nonneg (hn n hm), Int.natCast_pow] at h2
    exact h2
  have f2 : ∀ t, t = v2 (gl r) → oddF t (2 * r.getD j 0) = 0 := fun t ht => by
    subst ht
    unfold oddF
    refine if_pos (Int.emod_eq_zero_of_dvd ?_)
    rw [Int.pow_succ, Int.mul_comm]
    exact Int.mul_dvd_mul (Int.dvd_refl 2) (dv _ (getD_mem hj))
  refine ⟨deed_len r i j, deed_sum h, fun p hp => ?_, m1, m2, fun e => ?_, fun e => ?_, hnn⟩
  · rw [deed_get h p]
    have := h.pj
    have := h.ge
    by_cases e1 : p = j
    · subst e1; omega
    · rw [if_neg e1]
      by_cases e2 : p = i
      · subst e2; omega
      · rw [if_neg e2]; exact hp
  · have h1 := few_sum (v2 (gl r)) hn
    have h2 := few_sum (v2 (gl (deed r i j))) hnn
    have h3 := sum_deed h (oddF (v2 (gl r)))
    rw [e] at h2
    rw [ei, ej, f2 _ rfl] at h3
    have key : oddF (v2 (gl r)) (r.getD i 0 - r.getD j 0) ≤ oddF (v2 (gl r)) (r.getD i 0) + oddF (v2 (gl r)) (r.getD j 0) := by
      unfold oddF
      by_cases za : r.getD i 0 % 2 ^ (v2 (gl r) + 1) = 0
      · by_cases zb : r.getD j 0 % 2 ^ (v2 (gl r) + 1) = 0
        · rw [if_pos za, if_pos zb, if_pos (by rw [Int.sub_emod, za, zb]; simp)]; decide
        · rw [if_pos za, if_neg zb]; split <;> decide
      · rw [if_neg za]; split <;> split <;> decide
    unfold MG.od
    rw [e]
    omega
  · have h2 := few_sum (v2 (gl (deed r i j))) hnn
    have h4 := pos_sum (deed r i j)
    have lt := sum_lt_of (f := oddF (v2 (gl r))) (g := posF) (l := deed r i j) (fun n hm => by
      have := hnn n hm
      unfold oddF posF
      by_cases z : n = 0
      · subst z; rw [Int.zero_emod]; decide
      · rw [if_pos (show 0 < n by omega)]; split <;> decide) ⟨_, m2j, by
      rw [f2 _ rfl]
      unfold posF
      rw [if_pos (by have := h.pj; omega)]; decide⟩
    rw [hold_all]
    unfold MG.od
    rw [e] at h2 ⊢
    omega
end MG

/-! MG: data of rows, of places and of deeds; lists of pairs in the heap -/
namespace MG
open PySem PySem.Spec PyProof.Rows L2
def wholeD : PyData → Bool
  | .int _ => true
  | _ => false
def hasD (ns : List Int) : PyData → Bool
  | .int p => decide (0 ≤ p) && (decide (p < ns.length) && decide (0 < ns.getD p.toNat 0))
  | _ => false
def twoD (ns : List Int) : PyData → PyData → Bool
  | .int p, .int q => hasD ns (.int p) && (hasD ns (.int q) && decide (p ≠ q))
  | _, _ => false
def giveD (ns : List Int) : PyData → PyData → Bool
  | .int p, .int q => twoD ns (.int p) (.int q) && decide (ns.getD q.toNat 0 ≤ ns.getD p.toNat 0)
  | _, _ => false
theorem hasD_eq (ns : List Int) (p : Int) : hasD ns (.int p) = (decide (0 ≤ p) && (decide (p < ns.length) && decide (0 < ns.getD p.toNat 0))) := rfl
theorem twoD_eq (ns : List Int) (p q : Int) : twoD ns (.int p) (.int q) = (hasD ns (.int p) && (hasD ns (.int q) && decide (p ≠ q))) := rfl
theorem giveD_eq (ns : List Int) (p q : Int) : giveD ns (.int p) (.int q) = (twoD ns (.int p) (.int q) && decide (ns.getD q.toNat 0 ≤ ns.getD p.toNat 0)) := rfl
theorem hasD_int {ns : List Int} {d : PyData} (h : hasD ns d = true) : ∃ p : Nat, d = .int p ∧ p < ns.length ∧ 0 < ns.getD p 0 := by
  cases d with
  | int p =>
    unfold hasD at h
    simp only [Bool.and_eq_true, decide_eq_true_eq] at h
    obtain ⟨h1, h2, h3⟩ := h
    refine ⟨p.toNat, by rw [Int.toNat_of_nonneg h1], by omega, h3⟩
  | _ => cases h
theorem hasD_of {ns : List Int} {p : Nat} (h : p < ns.length) (h0 : 0 < ns.getD p 0) : hasD ns (.int p) = true := by
  rw [hasD_eq, Int.toNat_natCast, decide_eq_true (show (0 : Int) ≤ p by omega), decide_eq_true (show (p : Int) < ns.length by omega), decide_eq_true h0]
  rfl
theorem twoD_int {ns : List Int} {d e : PyData} (h : twoD ns d e = true) : ∃ p q : Nat, d = .int p ∧ e = .int q ∧ p < ns.length ∧ q < ns.length ∧ 0 < ns.getD p 0 ∧ 0 < ns.getD q 0 ∧ p ≠ q := by
  unfold twoD at h
  split at h
  · rename_i p q
    simp only [Bool.and_eq_true, decide_eq_true_eq] at h
    obtain ⟨a1, a2, a3⟩ := h
    obtain ⟨p', e1, b1, c1⟩ := hasD_int a1
    obtain ⟨q', e2, b2, c2⟩ := hasD_int a2
    cases e1
    cases e2
    exact ⟨p', q', rfl, rfl, b1, b2, c1, c2, fun z => a3 (by rw [z])⟩
  · cases h
theorem giveD_may {ns : List Int} {d e : PyData} (h : giveD ns d e = true) : ∃ p q : Nat, d = .int p ∧ e = .int q ∧ MayG ns p q := by
  unfold giveD at h
  split at h
  · rename_i p q
    rw [Bool.and_eq_true] at h
    obtain ⟨p', q', e1, e2, h1, h2, h3, h4, h5⟩ := twoD_int h.1
    cases e1
    cases e2
    have := of_decide_eq_true h.2
    rw [Int.toNat_natCast, Int.toNat_natCast] at this
    exact ⟨p', q', rfl, rfl, h1, h2, h5, h4, this⟩
  · cases h
theorem giveD_of {ns : List Int} {p q : Nat} (h : MayG ns p q) : giveD ns (.int p) (.int q) = true := by
  have h1 := h.pj
  have h2 := h.ge
  rw [giveD_eq, twoD_eq, hasD_of h.hi (by omega), hasD_of h.hj h1, decide_eq_true (show (p : Int) ≠ q by have := h.ne; omega), Int.toNat_natCast, Int.toNat_natCast, decide_eq_true h2]
  rfl
theorem getD_at {ns : List Int} {p : Nat} (h : p < ns.length) : (ns.map V.int)[p]? = some (.int (ns.getD p 0)) := by
  rw [List.getElem?_map, List.getD_eq_getElem?_getD, List.getElem?_eq_getElem h]
  rfl
theorem ixN_nat {m j : Nat} (h : j < m) : ixN m (j : Int) = some j := by
  unfold ixN
  rw [if_pos (by omega), if_pos (by omega), Int.toNat_natCast]
theorem ixN_neg1 {m : Nat} (h : 1 ≤ m) : ixN m (-1) = some (m - 1) := by
  unfold ixN
  rw [if_neg (by decide), if_pos (by omega)]
  congr 1
  omega
theorem atI_neg1 {α : Type} {xs : List α} {v : α} (h : 1 ≤ xs.length) (e : xs[xs.length - 1]? = some v) : atI xs (-1) = some v := by
  unfold atI
  rw [ixN_neg1 h]
  exact e
/-! ### pairs in the heap -/
def prO (c : Int × Int) : Option HO := some (.tup [.int c.1, .int c.2])
def PrAt (H : Hp) (ts : List Addr) (cs : List (Int × Int)) : Prop := ts.map H = cs.map prO
theorem PrAt.nil {H : Hp} : PrAt H [] [] := rfl
theorem PrAt.len {H : Hp} {ts : List Addr} {cs : List (Int × Int)} (h : PrAt H ts cs) : ts.length = cs.length := by
  have := congrArg List.length h
  rw [List.length_map, List.length_map] at this
  exact this
theorem PrAt.get {H : Hp} {ts : List Addr} {cs : List (Int × Int)} (h : PrAt H ts cs) {k : Nat} {t : Addr} (e : ts[k]? = some t) : ∃ c, cs[k]? = some c ∧ H t = some (.tup [.int c.1, .int c.2]) := by
  have z : (ts.map H)[k]? = some (H t) := by rw [List.getElem?_map, e]; rfl
  rw [h, List.getElem?_map] at z
  cases hc : cs[k]? with
  | none => rw [hc] at z; cases z
  | some c =>
    rw [hc] at z
    exact ⟨c, rfl, (Option.some.inj z).symm⟩
theorem PrAt.mem {H : Hp} {ts : List Addr} {cs : List (Int × Int)} (h : PrAt H ts cs) {t : Addr} (e : t ∈ ts) : ∃ c ∈ cs, H t = some (.tup [.int c.1, .int c.2]) := by
  obtain ⟨k, hk, rfl⟩ := List.getElem_of_mem e
  obtain ⟨c, h1, h2⟩ := h.get (List.getElem?_eq_getElem hk)
  exact ⟨c, List.mem_of_getElem? h1, h2⟩
theorem PrAt.mono {H H' : Hp} {ts : List Addr} {cs : List (Int × Int)} (h : PrAt H ts cs) (s : ∀ a o, (∃ x y, o = HO.tup [.int x, .int y]) → H a = some o → H' a = some o) : PrAt H' ts cs := by
  unfold PrAt at h ⊢
  rw [← h]
  refine List.map_congr_left fun a ha => ?_
  obtain ⟨c, _, e⟩ := PrAt.mem h ha
  rw [e, s a _ ⟨_, _, rfl⟩ e]
theorem PrAt.same {H H' : Hp} {ts : List Addr} {cs : List (Int × Int)} (h : PrAt H ts cs) (s : Same H H') : PrAt H' ts cs := h.mono fun a o _ e => s a o e
theorem PrAt.lst {H : Hp} {D : Addr} {xs ys : List V} {ts : List Addr} {cs : List (Int × Int)} (h : PrAt H ts cs) (hD : H D = some (.lst xs)) : PrAt (upd H D (.lst ys)) ts cs := h.mono fun a o ho e => by
  rw [upd_ne]
  · exact e
  · rintro rfl
    obtain ⟨x, y, rfl⟩ := ho
    rw [hD] at e
    cases e
theorem PrAt.snoc {H : Hp} {ts : List Addr} {cs : List (Int × Int)} {t : Addr} {c : Int × Int} (h : PrAt H ts cs) (e : H t = some (.tup [.int c.1, .int c.2])) : PrAt H (ts ++ [t]) (cs ++ [c]) := by
  unfold PrAt at h ⊢
  rw [List.map_append, List.map_append, h]
  show _ ++ [H t] = _ ++ [prO c]
  rw [e]
  rfl
def prD (c : Int × Int) : PyData := .tuple [.int c.1, .int c.2]
theorem dpPairs {K : PySem.W.Frag} {H : Hp} : ∀ {ts : List Addr} {cs : List (Int × Int)}, PrAt H ts cs → DpAll K H (ts.map V.ref) (cs.map prD)
  | [], [], _ => .nil
  | [], _ :: _, h => nomatch (congrArg List.length h : (0 : Nat) = _)
  | _ :: _, [], h => nomatch (congrArg List.length h : _ = (0 : Nat))
  | t :: ts, c :: cs, h => by
    have h1 : H t = prO c := (List.cons.inj h).1
    have h2 : PrAt H ts cs := (List.cons.inj h).2
    exact .cons (.tup (SqT.of h1) (.cons (.int c.1) (.cons (.int c.2) .nil))) (dpPairs h2)
theorem lay_prs : ∀ cs : List (Int × Int), PyData.canLayAll0 (cs.map prD) = true
  | [] => rfl
  | c :: cs => by rw [List.map_cons, PyData.canLayAll0, lay_prs cs]; rfl
theorem depth_prs : ∀ cs : List (Int × Int), PyData.depthAll (cs.map prD) ≤ 1
  | [] => Nat.zero_le _
  | c :: cs => by
    have := depth_prs cs
    rw [List.map_cons, PyData.depthAll]
    show max (0 + 1) _ ≤ 1
    omega
theorem shapedL_prs (cs : List (Int × Int)) : SeqAt.shaped (.list (cs.map prD)) = true := by
  unfold SeqAt.shaped
  rw [PyData.canLay0, lay_prs, PyData.depth]
  have := depth_prs cs
  rcases (show PyData.depthAll (cs.map prD) = 0 ∨ PyData.depthAll (cs.map prD) = 1 by omega) with h | h <;> rw [h] <;> rfl
theorem shapedT_prs (cs : List (Int × Int)) : SeqAt.shaped (.tuple (cs.map prD)) = true := by
  unfold SeqAt.shaped
  rw [PyData.canLay0, lay_prs, PyData.depth]
  have := depth_prs cs
  rcases (show PyData.depthAll (cs.map prD) = 0 ∨ PyData.depthAll (cs.map prD) = 1 by omega) with h | h <;> rw [h] <;> rfl
/-! ### all deeds -/
def rowD (ns : List Int) (hs : List Int) (i : Int) : List (Int × Int) := (hs.filter fun j => giveD ns (.int i) (.int j)).map fun j => (i, j)
def dlL (ns hs us : List Int) : List (Int × Int) := us.flatMap (rowD ns hs)
def dl (ns : List Int) : List (Int × Int) := dlL ns (hold ns ns.length) (hold ns ns.length)
theorem dlL_snoc (ns hs us : List Int) (i : Int) : dlL ns hs (us ++ [i]) = dlL ns hs us ++ rowD ns hs i := by
  unfold dlL
  rw [List.flatMap_append]
  show _ ++ (rowD ns hs i ++ []) = _
  rw [List.append_nil]
theorem rowD_snoc (ns us : List Int) (i j : Int) : rowD ns (us ++ [j]) i = rowD ns us i ++ (if giveD ns (.int i) (.int j) = true then [(i, j)] else []) := by
  unfold rowD
  rw [List.filter_append, List.map_append]
  congr 1
  by_cases h : giveD ns (.int i) (.int j) = true
  · rw [if_pos h, List.filter_cons_of_pos (p := fun j => giveD ns (.int i) (.int j)) h]; rfl
  · rw [if_neg h, List.filter_cons_of_neg (p := fun j => giveD ns (.int i) (.int j)) h]; rfl
theorem rowD_len (ns hs : List Int) (i : Int) : (rowD ns hs i).length ≤ hs.length := by
  unfold rowD
  rw [List.length_map]
  exact List.length_filter_le _ _
theorem dlL_len (ns hs : List Int) : ∀ us : List Int, (dlL ns hs us).length ≤ us.length * hs.length
  | [] => Nat.zero_le _
  | u :: us => by
    have h1 := dlL_len ns hs us
    have h2 := rowD_len ns hs u
    unfold dlL at h1 ⊢
    rw [List.flatMap_cons, List.length_append, List.length_cons, Nat.add_mul]
    omega
theorem dl_len (ns : List Int) : (dl ns).length ≤ ns.length * ns.length := by
  have h := hold_len ns ns.length
  exact Nat.le_trans (dlL_len ns _ _) (Nat.mul_le_mul h h)
theorem dl_may {ns : List Int} {c : Int × Int} (h : c ∈ dl ns) : ∃ i j : Nat, c = ((i : Int), (j : Int)) ∧ MayG ns i j := by
  unfold dl dlL at h
  obtain ⟨i, hi, hc⟩ := List.mem_flatMap.mp h
  unfold rowD at hc
  obtain ⟨j, hj, rfl⟩ := List.mem_map.mp hc
  obtain ⟨p, q, e1, e2, m⟩ := giveD_may (List.mem_filter.mp hj).2
  cases e1
  cases e2
  exact ⟨p, q, rfl, m⟩
theorem hold_mem {ns : List Int} {p : Nat} (h : p < ns.length) (h0 : 0 < ns.getD p 0) : (p : Int) ∈ hold ns ns.length := by
  unfold hold
  exact List.mem_map.mpr ⟨p, List.mem_filter.mpr ⟨List.mem_range.mpr h, decide_eq_true h0⟩, rfl⟩
theorem mem_dl {ns : List Int} {i j : Nat} (h : MayG ns i j) : ((i : Int), (j : Int)) ∈ dl ns := by
  have h1 := h.pj
  have h2 := h.ge
  unfold dl dlL
  refine List.mem_flatMap.mpr ⟨(i : Int), hold_mem h.hi (by omega), ?_⟩
  unfold rowD
  exact List.mem_map.mpr ⟨(j : Int), List.mem_filter.mpr ⟨hold_mem h.hj h1, giveD_of h⟩, rfl⟩
end MG

/-! MG: readings of comprehensions that laws use often, for any slots -/
namespace MG
open PySem PySem.Spec PyProof.Rows L2
theorem pt_never {X : Cx} {e : Expr} : PT X e (fun _ _ _ => False) := ⟨fun _ _ _ _ _ _ h => h.elim⟩
theorem pe_never {X : Cx} {e : Expr} : PE X e (fun _ _ _ => False) := ⟨fun _ _ _ _ _ _ h => h.elim⟩
def cnt (ns : List Int) : Nat := (ns.filter fun n => decide (0 < n)).length
theorem cnt_hold (ns : List Int) : cnt ns = (hold ns ns.length).length := (hold_all ns).symm
theorem same_updG {H : Hp} {p : Addr} {o : HO} (h : H p = none) : Same H (upd H p o) := fun b x e => by
  rw [upd_ne (ne_of_none e h)]
  exact e
/-- a comprehension over a tuple of ints, test and item without a trace -/
theorem lc_pureT {K : PySem.W.Frag} {a : Addr} {ns : List Int} {g : TG} {tt : TT} {te : TE} {vs : List Nat} {σ : L2.St} {H1 : Hp} {D : Addr} {Qd : Hp → Prop} (e : H1 a = some (.tup (ns.map V.int))) (hl : ns.length ≤ 1000) (nD : H1 D = none) (p : Int → Bool) (f : Int → V)
    (hs : ∀ n ∈ ns, ∀ (H : Hp) (Y : V → Hp → Prop) (N : Hp → Prop), Same H1 H → (p n = true → ∀ H4, Same H H4 → Y (f n) H4) → (p n = false → ∀ H4, Same H H4 → N H4) → g (.int n) (wipe σ vs) H fun σ2 H2 => wipe σ2 vs = wipe σ vs ∧ tt σ2 H2 fun b H3 => if b = true then te σ2 H3 Y else N H3)
    (hd : ∀ H', Same H1 H' → H' D = some (.lst ((ns.filter p).map f)) → Qd H') :
    ∃ W : Nat → Nat → Hp → Prop, (∃ m, W 0 m (upd H1 D (.lst []))) ∧ ∀ i m H, W i m H →
      ((Itt K a).stop i H ∧ Qd H) ∨ ((Itt K a).go i H ∧ ∃ Nx : Hp → Prop, (∀ H', Nx H' → ∃ m', m' < m ∧ W (i + 1) m' H') ∧ ∀ x H', (Itt K a).yld i H x H' → g x (wipe σ vs) H' fun σ2 H2 => wipe σ2 vs = wipe σ vs ∧ tt σ2 H2 fun b H3 =>
        if b = true then te σ2 H3 fun y H4 => ∃ acc, H4 D = some (.lst acc) ∧ acc.length < sizeLine ∧ Nx (upd H4 D (.lst (acc ++ [y]))) else Nx H3) := by
  refine lc_tup (K := K) (a := a) (xs := ns.map V.int) (fun i H' => Same H1 H' ∧ H' D = some (.lst (((ns.take i).filter p).map f))) ⟨same_updG nD, upd_same⟩ ?_ ?_ ?_
  · rintro i H' _ ⟨sm, _⟩
    exact SqT.of (sm _ _ e)
  · rintro i x H' hx ⟨sm, hD⟩
    rw [List.getElem?_map] at hx
    obtain ⟨n, hn, rfl⟩ := Option.map_eq_some_iff.mp hx
    have et : ns.take (i + 1) = ns.take i ++ [n] := by rw [List.take_add_one, hn]; rfl
    refine hs n (List.mem_of_getElem? hn) H' _ _ sm (fun hp H4 s4 => ?_) (fun hp H4 s4 => ?_)
    · refine ⟨_, s4 _ _ hD, ?_, ?_, ?_⟩
      · rw [List.length_map]
        refine small1000 (Nat.le_trans (List.length_filter_le _ _) ?_)
        rw [List.length_take]; omega
      · intro c o hc
        rw [upd_ne (ne_of_none hc nD)]
        exact s4 _ _ (sm c o hc)
      · rw [upd_same, et, List.filter_append, List.filter_cons_of_pos hp, List.map_append]
        rfl
    · refine ⟨sm.trans s4, ?_⟩
      rw [et, List.filter_append, List.filter_cons_of_neg (by rw [hp]; exact Bool.false_ne_true), List.filter_nil, List.append_nil]
      exact s4 _ _ hD
  · rintro H' ⟨sm, hD⟩
    rw [List.length_map, List.take_length] at hD
    exact hd H' sm hD
theorem lc_pureL {K : PySem.W.Frag} {a : Addr} {ns : List Int} {g : TG} {tt : TT} {te : TE} {vs : List Nat} {σ : L2.St} {H1 : Hp} {D : Addr} {Qd : Hp → Prop} (e : H1 a = some (.lst (ns.map V.int))) (hl : ns.length ≤ 1000) (nD : H1 D = none) (p : Int → Bool) (f : Int → V)
    (hs : ∀ n ∈ ns, ∀ (H : Hp) (Y : V → Hp → Prop) (N : Hp → Prop), Same H1 H → (p n = true → ∀ H4, Same H H4 → Y (f n) H4) → (p n = false → ∀ H4, Same H H4 → N H4) → g (.int n) (wipe σ vs) H fun σ2 H2 => wipe σ2 vs = wipe σ vs ∧ tt σ2 H2 fun b H3 => if b = true then te σ2 H3 Y else N H3)
    (hd : ∀ H', Same H1 H' → H' D = some (.lst ((ns.filter p).map f)) → Qd H') :
    ∃ W : Nat → Nat → Hp → Prop, (∃ m, W 0 m (upd H1 D (.lst []))) ∧ ∀ i m H, W i m H →
      ((Itl K a).stop i H ∧ Qd H) ∨ ((Itl K a).go i H ∧ ∃ Nx : Hp → Prop, (∀ H', Nx H' → ∃ m', m' < m ∧ W (i + 1) m' H') ∧ ∀ x H', (Itl K a).yld i H x H' → g x (wipe σ vs) H' fun σ2 H2 => wipe σ2 vs = wipe σ vs ∧ tt σ2 H2 fun b H3 =>
        if b = true then te σ2 H3 fun y H4 => ∃ acc, H4 D = some (.lst acc) ∧ acc.length < sizeLine ∧ Nx (upd H4 D (.lst (acc ++ [y]))) else Nx H3) := by
  refine lc_list (K := K) (a := a) (xs := ns.map V.int) (fun i H' => Same H1 H' ∧ H' D = some (.lst (((ns.take i).filter p).map f))) ⟨same_updG nD, upd_same⟩ ?_ ?_ ?_
  · rintro i H' _ ⟨sm, _⟩
    exact SqL.of (sm _ _ e)
  · rintro i x H' hx ⟨sm, hD⟩
    rw [List.getElem?_map] at hx
    obtain ⟨n, hn, rfl⟩ := Option.map_eq_some_iff.mp hx
    have et : ns.take (i + 1) = ns.take i ++ [n] := by rw [List.take_add_one, hn]; rfl
    refine hs n (List.mem_of_getElem? hn) H' _ _ sm (fun hp H4 s4 => ?_) (fun hp H4 s4 => ?_)
    · refine ⟨_, s4 _ _ hD, ?_, ?_, ?_⟩
      · rw [List.length_map]
        refine small1000 (Nat.le_trans (List.length_filter_le _ _) ?_)
        rw [List.length_take]; omega
      · intro c o hc
        rw [upd_ne (ne_of_none hc nD)]
        exact s4 _ _ (sm c o hc)
      · rw [upd_same, et, List.filter_append, List.filter_cons_of_pos hp, List.map_append]
        rfl
    · refine ⟨sm.trans s4, ?_⟩
      rw [et, List.filter_append, List.filter_cons_of_neg (by rw [hp]; exact Bool.false_ne_true), List.filter_nil, List.append_nil]
      exact s4 _ _ hD
  · rintro H' ⟨sm, hD⟩
    rw [List.length_map, List.take_length] at hD
    exact hd H' sm hD
theorem wipe1 (σ : L2.St) (i : Nat) (x : Option V) : wipe ((wipe σ [i]).set i x) [i] = wipe σ [i] := by
  show ((σ.set i none).set i x).set i none = σ.set i none
  rw [List.set_set, List.set_set]
theorem wipe2 (σ : L2.St) {i j : Nat} (h : i ≠ j) (x y : Option V) : wipe (((wipe σ [i, j]).set i x).set j y) [i, j] = wipe σ [i, j] := by
  show (((((σ.set j none).set i none).set i x).set j y).set j none).set i none = (σ.set j none).set i none
  rw [List.set_set, List.set_set, List.set_comm x none h, List.set_set, List.set_set]
/-- len([n for n in row if n > 0]) -/
theorem cntT {K : PySem.W.Frag} {r i : Nat} {σ : L2.St} {H : Hp} {Q : VK} {a : Addr} {ns : List Int} (hr : σ[r]? = some (some (.ref a))) (hi : i < σ.length) (e : H a = some (.tup (ns.map V.int))) (hl : ns.length ≤ 1000) (q : ∀ H', Same H H' → Q (.int (cnt ns : Nat)) H') :
    tCB (fun xs H Q => ∃ p ys, xs = [.ref p] ∧ (SqL K H p ys ∨ SqT K H p ys) ∧ Q (.int ys.length) H) (tCons (tLc (iTup K (tVar r)) (gName i) (tTest (tOp (rI0 fun i j => .bl (decide (j < i))) (tVar i) (tC (.int 0)))) (tVar i) [i]) tNil) σ H Q := by
  refine ⟨_, hr, a, rfl, ⟨_, SqT.of e⟩, fun D nD => ?_⟩
  refine lc_pureT (K := K) e hl nD (fun n => decide (0 < n)) V.int ?_ ?_
  · intro n _ H' Y N sm y1 y0
    have g1 : ((wipe σ [i]).set i (some (V.int n)))[i]? = some (some (V.int n)) := List.getElem?_set_self (by rw [wipe_length]; exact hi)
    refine ⟨wipe1 σ i _, _, g1, n, 0, rfl, rfl, _, rfl, ?_⟩
    cases h : decide (0 < n) with
    | true => exact iteT ⟨_, g1, y1 h H' (.refl _)⟩
    | false => exact iteF (y0 h H' (.refl _))
  · intro H' sm hD
    refine ⟨D, _, rfl, .inl (SqL.of hD), ?_⟩
    rw [List.length_map]
    exact q H' sm
/-- the same, its end alone -/
theorem cntW {K : PySem.W.Frag} {i : Nat} {σ : L2.St} {H : Hp} {a D : Addr} {ns : List Int} {Qd : Hp → Prop} (hi : i < σ.length) (e : H a = some (.tup (ns.map V.int))) (hl : ns.length ≤ 1000) (nD : H D = none) (q : ∀ H', Same H H' → H' D = some (.lst ((ns.filter fun n => decide (0 < n)).map V.int)) → Qd H') :
    ∃ W : Nat → Nat → Hp → Prop, (∃ m, W 0 m (upd H D (.lst []))) ∧ ∀ j m H, W j m H →
      ((Itt K a).stop j H ∧ Qd H) ∨ ((Itt K a).go j H ∧ ∃ Nx : Hp → Prop, (∀ H', Nx H' → ∃ m', m' < m ∧ W (j + 1) m' H') ∧ ∀ x H', (Itt K a).yld j H x H' → gName i x (wipe σ [i]) H' fun σ2 H2 => wipe σ2 [i] = wipe σ [i] ∧ tTest (tOp (rI0 fun i j => .bl (decide (j < i))) (tVar i) (tC (.int 0))) σ2 H2 fun b H3 =>
        if b = true then tVar i σ2 H3 fun y H4 => ∃ acc, H4 D = some (.lst acc) ∧ acc.length < sizeLine ∧ Nx (upd H4 D (.lst (acc ++ [y]))) else Nx H3) := by
  refine lc_pureT (K := K) e hl nD (fun n => decide (0 < n)) V.int ?_ q
  intro n _ H' Y N sm y1 y0
  have g1 : ((wipe σ [i]).set i (some (V.int n)))[i]? = some (some (V.int n)) := List.getElem?_set_self (by rw [wipe_length]; exact hi)
  refine ⟨wipe1 σ i _, _, g1, n, 0, rfl, rfl, _, rfl, ?_⟩
  cases h : decide (0 < n) with
  | true => exact iteT ⟨_, g1, y1 h H' (.refl _)⟩
  | false => exact iteF (y0 h H' (.refl _))
theorem decI (a : Int) (b : Int) : decide (V.int a = V.int b) = decide (a = b) := by
  by_cases h : a = b
  · rw [h]; simp
  · rw [decide_eq_false h, decide_eq_false (fun z => h (V.int.inj z))]
/-- any([one == 0 and two > 0 for one, two in zip(here, there)]) -/
theorem hfnT {K : PySem.W.Frag} {r1 r2 i j : Nat} {σ : L2.St} {H : Hp} {Q : VK} {a b : Addr} {r o : List Int} (h1 : σ[r1]? = some (some (.ref a))) (h2 : σ[r2]? = some (some (.ref b))) (hij : i ≠ j) (hi : i < σ.length) (hj : j < σ.length)
    (ea : H a = some (.tup (r.map V.int))) (eb : H b = some (.tup (o.map V.int))) (hlen : r.length = o.length) (hl : r.length ≤ 1000) (q : ∀ H', Same H H' → Q (.bl (hfn r o)) H') :
    tCB (rAny K) (tCons (tLc (RZ.iZipA K (tCons (tVar r1) (tCons (tVar r2) tNil))) (gTup K 2 (gCons (gName i) (gCons (gName j) gNil))) tYes (tAndV (tOp rEq (tVar i) (tC (.int 0))) (tOp (rI0 fun i j => .bl (decide (j < i))) (tVar j) (tC (.int 0)))) [i, j]) tNil) σ H Q := by
  refine ⟨_, h1, _, h2, a, b, _, _, rfl, .inr ⟨SqT.of ea, SqT.of eb, fun D nD => ?_⟩⟩
  let L : List Bool := (r.zip o).map fun p => decide (p.1 = 0) && decide (p.2 > 0)
  have hL : L.length = r.length := by
    show ((r.zip o).map _).length = _
    rw [List.length_map, List.length_zip]; omega
  refine lc_it (walk_zipT (K := K) (a := a) (b := b) (xs := r.map V.int) (ys := o.map V.int) (n := r.length) (by rw [List.length_map, List.length_map]; omega)) (fun i H' => Same H H' ∧ H' D = some (.lst ((L.take i).map V.bl))) ⟨same_updG nD, upd_same⟩ ?_ ?_ ?_
  · intro i H' _ h
    exact ⟨SqT.of (h.1 _ _ ea), SqT.of (h.1 _ _ eb)⟩
  · rintro m x H' H'' hm ⟨sm, hD⟩ ⟨T, x1, x2, rfl, nT, rfl, e1, e2⟩
    have hm2 : m < o.length := by omega
    have e1' : x1 = .int r[m] := by
      have z : (r.map V.int)[m]? = some x1 := e1
      rw [List.getElem?_map, List.getElem?_eq_getElem hm] at z
      exact (Option.some.inj z).symm
    have e2' : x2 = .int o[m] := by
      have z : (o.map V.int)[m]? = some x2 := e2
      rw [List.getElem?_map, List.getElem?_eq_getElem hm2] at z
      exact (Option.some.inj z).symm
    subst e1' e2'
    have smT : Same H' (upd H' T (.tup [.int r[m], .int o[m]])) := same_updG nT
    have hz : L[m]? = some (decide (r[m] = 0) && decide (o[m] > 0)) := by
      show ((r.zip o).map _)[m]? = _
      rw [List.getElem?_map, (List.getElem?_zip_eq_some (z := (r[m], o[m]))).mpr ⟨List.getElem?_eq_getElem hm, List.getElem?_eq_getElem hm2⟩]
      rfl
    have fin : ∀ y, y = (decide (r[m] = 0) && decide (o[m] > 0)) → ∃ acc, upd H' T (.tup [.int r[m], .int o[m]]) D = some (.lst acc) ∧ acc.length < sizeLine ∧ Same H (upd (upd H' T (.tup [.int r[m], .int o[m]])) D (.lst (acc ++ [V.bl y]))) ∧ upd (upd H' T (.tup [.int r[m], .int o[m]])) D (.lst (acc ++ [V.bl y])) D = some (.lst ((L.take (m + 1)).map V.bl)) := fun y hy => by
      refine ⟨_, smT _ _ hD, ?_, ?_, ?_⟩
      · rw [List.length_map, List.length_take]
        exact small1000 (by omega)
      · intro c o hc
        rw [upd_ne (ne_of_none hc nD)]
        exact smT _ _ (sm c o hc)
      · rw [upd_same, List.take_add_one, hz, List.map_append, hy]
        rfl
    have si : i < (wipe σ [i, j]).length := by rw [wipe_length]; exact hi
    have sj : j < (wipe σ [i, j]).length := by rw [wipe_length]; exact hj
    have gi : (((wipe σ [i, j]).set i (some (V.int r[m]))).set j (some (V.int o[m])))[i]? = some (some (V.int r[m])) := by
      rw [List.getElem?_set_ne (Ne.symm hij)]; exact List.getElem?_set_self si
    have gj : (((wipe σ [i, j]).set i (some (V.int r[m]))).set j (some (V.int o[m])))[j]? = some (some (V.int o[m])) := List.getElem?_set_self (by rw [List.length_set]; exact sj)
    refine ⟨T, [.int r[m], .int o[m]], rfl, .inl (.inl upd_same), rfl, .int r[m], [.int o[m]], rfl, .int o[m], [], rfl, rfl, wipe2 σ hij _ _, ?_⟩
    refine ⟨_, gi, rfl, _, rfl, ?_⟩
    rw [decI]
    refine ite2 (fun hp => ?_) (fun hp => ?_)
    · refine ⟨_, gj, _, 0, rfl, rfl, ?_⟩
      exact fin _ (by rw [hp]; rfl)
    · have hp' : decide (r[m] = 0) = false := by cases h : decide (r[m] = 0) <;> first | rfl | exact absurd h hp
      exact fin _ (by rw [hp']; rfl)
  · rintro H' ⟨sm, hD⟩
    rw [← hL, List.take_length] at hD
    refine ⟨D, L, rfl, SqL.of hD, ?_⟩
    have e : L.any id = hfn r o := by
      show ((r.zip o).map _).any id = _
      unfold hfn
      rw [List.any_map]
      rfl
    rw [e]
    exact q H' sm
/-- any([two > 0 and one == 0 for one, two in zip(here, there)]) -/
theorem hfnR {K : PySem.W.Frag} {r1 r2 i j : Nat} {σ : L2.St} {H : Hp} {Q : VK} {a b : Addr} {r o : List Int} (h1 : σ[r1]? = some (some (.ref a))) (h2 : σ[r2]? = some (some (.ref b))) (hij : i ≠ j) (hi : i < σ.length) (hj : j < σ.length)
    (ea : H a = some (.tup (r.map V.int))) (eb : H b = some (.tup (o.map V.int))) (hlen : r.length = o.length) (hl : r.length ≤ 1000) (q : ∀ H', Same H H' → Q (.bl (hfn r o)) H') :
    tCB (rAny K) (tCons (tLc (RZ.iZipA K (tCons (tVar r1) (tCons (tVar r2) tNil))) (gTup K 2 (gCons (gName i) (gCons (gName j) gNil))) tYes (tAndV (tOp (rI0 fun i j => .bl (decide (j < i))) (tVar j) (tC (.int 0))) (tOp rEq (tVar i) (tC (.int 0)))) [i, j]) tNil) σ H Q := by
  refine ⟨_, h1, _, h2, a, b, _, _, rfl, .inr ⟨SqT.of ea, SqT.of eb, fun D nD => ?_⟩⟩
  let L : List Bool := (r.zip o).map fun p => decide (p.1 = 0) && decide (p.2 > 0)
  have hL : L.length = r.length := by
    show ((r.zip o).map _).length = _
    rw [List.length_map, List.length_zip]; omega
  refine lc_it (walk_zipT (K := K) (a := a) (b := b) (xs := r.map V.int) (ys := o.map V.int) (n := r.length) (by rw [List.length_map, List.length_map]; omega)) (fun i H' => Same H H' ∧ H' D = some (.lst ((L.take i).map V.bl))) ⟨same_updG nD, upd_same⟩ ?_ ?_ ?_
  · intro i H' _ h
    exact ⟨SqT.of (h.1 _ _ ea), SqT.of (h.1 _ _ eb)⟩
  · rintro m x H' H'' hm ⟨sm, hD⟩ ⟨T, x1, x2, rfl, nT, rfl, e1, e2⟩
    have hm2 : m < o.length := by omega
    have e1' : x1 = .int r[m] := by
      have z : (r.map V.int)[m]? = some x1 := e1
      rw [List.getElem?_map, List.getElem?_eq_getElem hm] at z
      exact (Option.some.inj z).symm
    have e2' : x2 = .int o[m] := by
      have z : (o.map V.int)[m]? = some x2 := e2
      rw [List.getElem?_map, List.getElem?_eq_getElem hm2] at z
      exact (Option.some.inj z).symm
    subst e1' e2'
    have smT : Same H' (upd H' T (.tup [.int r[m], .int o[m]])) := same_updG nT
    have hz : L[m]? = some (decide (r[m] = 0) && decide (o[m] > 0)) := by
      show ((r.zip o).map _)[m]? = _
      rw [List.getElem?_map, (List.getElem?_zip_eq_some (z := (r[m], o[m]))).mpr ⟨List.getElem?_eq_getElem hm, List.getElem?_eq_getElem hm2⟩]
      rfl
    have fin : ∀ y, y = (decide (r[m] = 0) && decide (o[m] > 0)) → ∃ acc, upd H' T (.tup [.int r[m], .int o[m]]) D = some (.lst acc) ∧ acc.length < sizeLine ∧ Same H (upd (upd H' T (.tup [.int r[m], .int o[m]])) D (.lst (acc ++ [V.bl y]))) ∧ upd (upd H' T (.tup [.int r[m], .int o[m]])) D (.lst (acc ++ [V.bl y])) D = some (.lst ((L.take (m + 1)).map V.bl)) := fun y hy => by
      refine ⟨_, smT _ _ hD, ?_, ?_, ?_⟩
      · rw [List.length_map, List.length_take]
        exact small1000 (by omega)
      · intro c o hc
        rw [upd_ne (ne_of_none hc nD)]
        exact smT _ _ (sm c o hc)
      · rw [upd_same, List.take_add_one, hz, List.map_append, hy]
        rfl
    have si : i < (wipe σ [i, j]).length := by rw [wipe_length]; exact hi
    have sj : j < (wipe σ [i, j]).length := by rw [wipe_length]; exact hj
    have gi : (((wipe σ [i, j]).set i (some (V.int r[m]))).set j (some (V.int o[m])))[i]? = some (some (V.int r[m])) := by
      rw [List.getElem?_set_ne (Ne.symm hij)]; exact List.getElem?_set_self si
    have gj : (((wipe σ [i, j]).set i (some (V.int r[m]))).set j (some (V.int o[m])))[j]? = some (some (V.int o[m])) := List.getElem?_set_self (by rw [List.length_set]; exact sj)
    refine ⟨T, [.int r[m], .int o[m]], rfl, .inl (.inl upd_same), rfl, .int r[m], [.int o[m]], rfl, .int o[m], [], rfl, rfl, wipe2 σ hij _ _, ?_⟩
    refine ⟨_, gj, _, 0, rfl, rfl, _, rfl, ?_⟩
    refine ite2 (fun hp => ?_) (fun hp => ?_)
    · refine ⟨_, gi, rfl, ?_⟩
      rw [decI]
      exact fin _ (by rw [show decide (o[m] > 0) = true from hp, Bool.and_true])
    · have hp' : decide (o[m] > 0) = false := by cases h : decide (o[m] > 0) <;> first | rfl | exact absurd h hp
      exact fin _ (by rw [hp', Bool.and_false])
  · rintro H' ⟨sm, hD⟩
    rw [← hL, List.take_length] at hD
    refine ⟨D, L, rfl, SqL.of hD, ?_⟩
    have e : L.any id = hfn r o := by
      show ((r.zip o).map _).any id = _
      unfold hfn
      rw [List.any_map]
      rfl
    rw [e]
    exact q H' sm
/-- [place for place, amount in enumerate(row) if amount > 0], its end alone -/
theorem holdW {K : PySem.W.Frag} {i j : Nat} {σ : L2.St} {H : Hp} {a D : Addr} {ns : List Int} {Qd : Hp → Prop} (hij : i ≠ j) (hi : i < σ.length) (hj : j < σ.length) (e : H a = some (.tup (ns.map V.int))) (hl : ns.length ≤ 1000) (nD : H D = none) (q : ∀ H', Same H H' → H' D = some (.lst ((hold ns ns.length).map V.int)) → Qd H') :
    ∃ W : Nat → Nat → Hp → Prop, (∃ m, W 0 m (upd H D (.lst []))) ∧ ∀ k m H, W k m H →
      ((IteT K a).stop k H ∧ Qd H) ∨ ((IteT K a).go k H ∧ ∃ Nx : Hp → Prop, (∀ H', Nx H' → ∃ m', m' < m ∧ W (k + 1) m' H') ∧ ∀ x H', (IteT K a).yld k H x H' → gTup K 2 (gCons (gName i) (gCons (gName j) gNil)) x (wipe σ [i, j]) H' fun σ2 H2 => wipe σ2 [i, j] = wipe σ [i, j] ∧ tTest (tOp (rI0 fun i j => .bl (decide (j < i))) (tVar j) (tC (.int 0))) σ2 H2 fun b H3 =>
        if b = true then tVar i σ2 H3 fun y H4 => ∃ acc, H4 D = some (.lst acc) ∧ acc.length < sizeLine ∧ Nx (upd H4 D (.lst (acc ++ [y]))) else Nx H3) := by
  refine lc_it (walk_enumT (K := K) (a := a) (xs := ns.map V.int)) (fun i H' => Same H H' ∧ H' D = some (.lst ((hold ns i).map V.int))) ⟨same_updG nD, upd_same⟩ ?_ ?_ ?_
  · intro i H' _ h
    exact SqT.of (h.1 _ _ e)
  · rintro m x H' H'' hm ⟨sm, hD⟩ ⟨T, x1, x2, rfl, nT, rfl, e1, e2⟩
    rw [List.length_map] at hm
    have e1' : x1 = .int (m : Nat) := (Option.some.inj e1).symm
    have e2' : x2 = .int ns[m] := by
      have z : (ns.map V.int)[m]? = some x2 := e2
      rw [List.getElem?_map, List.getElem?_eq_getElem hm] at z
      exact (Option.some.inj z).symm
    subst e1' e2'
    have smT : Same H' (upd H' T (.tup [.int (m : Nat), .int ns[m]])) := same_updG nT
    have hg : ns.getD m 0 = ns[m] := by rw [List.getD_eq_getElem?_getD, List.getElem?_eq_getElem hm]; rfl
    have si : i < (wipe σ [i, j]).length := by rw [wipe_length]; exact hi
    have sj : j < (wipe σ [i, j]).length := by rw [wipe_length]; exact hj
    have gi : (((wipe σ [i, j]).set i (some (V.int (m : Nat)))).set j (some (V.int ns[m])))[i]? = some (some (V.int (m : Nat))) := by
      rw [List.getElem?_set_ne (Ne.symm hij)]; exact List.getElem?_set_self si
    have gj : (((wipe σ [i, j]).set i (some (V.int (m : Nat)))).set j (some (V.int ns[m])))[j]? = some (some (V.int ns[m])) := List.getElem?_set_self (by rw [List.length_set]; exact sj)
    refine ⟨T, [.int (m : Nat), .int ns[m]], rfl, .inl (.inl upd_same), rfl, .int (m : Nat), [.int ns[m]], rfl, .int ns[m], [], rfl, rfl, wipe2 σ hij _ _, _, gj, ns[m], 0, rfl, rfl, _, rfl, ?_⟩
    refine ite2 (fun hp => ?_) (fun hp => ?_)
    · have hp' : 0 < ns[m] := of_decide_eq_true hp
      refine ⟨.int (m : Nat), gi, _, smT _ _ hD, ?_, ?_, ?_⟩
      · rw [List.length_map]
        exact small1000 (Nat.le_trans (hold_len ns m) (by omega))
      · intro c o hc
        rw [upd_ne (ne_of_none hc nD)]
        exact smT _ _ (sm c o hc)
      · rw [upd_same, hold_succ, hg, if_pos hp', List.map_append]
        rfl
    · have hp' : ¬ 0 < ns[m] := fun z => hp (decide_eq_true z)
      refine ⟨sm.trans smT, ?_⟩
      rw [hold_succ, hg, if_neg hp', List.append_nil]
      exact smT _ _ hD
  · rintro H' ⟨sm, hD⟩
    rw [List.length_map] at hD
    exact q H' sm hD
theorem hold_get {ns : List Int} {x : Int} (h : x ∈ hold ns ns.length) : ∃ p : Nat, x = p ∧ p < ns.length ∧ 0 < ns.getD p 0 := by
  unfold hold at h
  obtain ⟨p, hp, rfl⟩ := List.mem_map.mp h
  obtain ⟨h1, h2⟩ := List.mem_filter.mp hp
  exact ⟨p, rfl, List.mem_range.mp h1, of_decide_eq_true h2⟩
/-! ### lists of rows as data -/
def rowDt (r : List Int) : PyData := .tuple (r.map PyData.int)
theorem dpRows {K : PySem.W.Frag} {H : Hp} : ∀ {ts : List Addr}, (∀ t ∈ ts, ∃ xs : List Int, H t = some (.tup (xs.map V.int))) → ∃ rs : List (List Int), rs.length = ts.length ∧ DpAll K H (ts.map V.ref) (rs.map rowDt)
  | [], _ => ⟨[], rfl, .nil⟩
  | t :: ts, h => by
    obtain ⟨xs, e⟩ := h t List.mem_cons_self
    obtain ⟨rs, h1, h2⟩ := dpRows (K := K) fun u hu => h u (List.mem_cons_of_mem _ hu)
    exact ⟨xs :: rs, by rw [List.length_cons, List.length_cons, h1], .cons (.tup (SqT.of e) (dpIntsG xs)) h2⟩
theorem lay_rows : ∀ rs : List (List Int), PyData.canLayAll0 (rs.map rowDt) = true
  | [] => rfl
  | r :: rs => by
    rw [List.map_cons, PyData.canLayAll0, lay_rows rs, rowDt, PyData.canLay0, lay_intsG]; rfl
theorem depth_rows : ∀ rs : List (List Int), PyData.depthAll (rs.map rowDt) ≤ 1
  | [] => Nat.zero_le _
  | r :: rs => by
    have := depth_rows rs
    rw [List.map_cons, PyData.depthAll, rowDt, PyData.depth, depth_intsG]
    omega
theorem shapedL_rows (rs : List (List Int)) : SeqAt.shaped (.list (rs.map rowDt)) = true := by
  unfold SeqAt.shaped
  rw [PyData.canLay0, lay_rows, PyData.depth]
  have := depth_rows rs
  rcases (show PyData.depthAll (rs.map rowDt) = 0 ∨ PyData.depthAll (rs.map rowDt) = 1 by omega) with h | h <;> rw [h] <;> rfl
/-! ### good rows -/
structure Gd (ns : List Int) : Prop where
  nn : ∀ n ∈ ns, 0 ≤ n
  sum : ns.sum < 2 ^ 200
  len : ns.length ≤ 30
  pos : ∃ n ∈ ns, 0 < n
theorem mem_le_sumG : ∀ {l : List Int}, (∀ n ∈ l, 0 ≤ n) → ∀ n ∈ l, n ≤ l.sum
  | [], _, n, h => absurd h List.not_mem_nil
  | x :: l, h, n, hn => by
    have hl : ∀ m ∈ l, 0 ≤ m := fun m hm => h m (List.mem_cons_of_mem _ hm)
    have hs : ∀ {k : List Int}, (∀ m ∈ k, 0 ≤ m) → 0 ≤ k.sum := fun {k} => by
      induction k with
      | nil => intro _; exact Int.le_refl _
      | cons y k ih =>
        intro hk
        rw [List.sum_cons]
        have := hk y List.mem_cons_self
        have := ih fun m hm => hk m (List.mem_cons_of_mem _ hm)
        omega
    rw [List.sum_cons]
    rcases List.mem_cons.mp hn with rfl | hn
    · have := hs hl; omega
    · have := mem_le_sumG hl n hn
      have := h x List.mem_cons_self
      omega
theorem sum_le_mul {c : Int} : ∀ {l : List Int}, (∀ n ∈ l, n ≤ c) → l.sum ≤ l.length * c
  | [], _ => by simp
  | x :: l, h => by
    have h1 := sum_le_mul (c := c) (l := l) fun n hn => h n (List.mem_cons_of_mem _ hn)
    have h2 := h x List.mem_cons_self
    rw [List.sum_cons, List.length_cons]
    have : ((l.length + 1 : Nat) : Int) * c = l.length * c + c := by rw [Int.natCast_add, Int.add_mul]; omega
    omega
theorem Gd.deed {ns : List Int} {i j : Nat} (g : Gd ns) (m : MayG ns i j) : Gd (MG.deed ns i j) := by
  refine ⟨deed_nn m g.nn, by rw [deed_sum m]; exact g.sum, by rw [deed_len]; exact g.len, ?_⟩
  have := deed_get m j
  rw [if_pos rfl] at this
  exact ⟨_, getD_mem (by rw [deed_len]; exact m.hj), by rw [this]; have := m.pj; omega⟩
theorem brk_layG (r o : List Int) : ∀ x ∈ brkT r o, PyData.canLay0 (.str x) = true := by
  intro x hx
  unfold brkT at hx
  split at hx
  · cases hx
  · split at hx
    · rw [List.mem_singleton.mp hx]; decide +kernel
    · unfold MG.clausesOf at hx
      obtain ⟨y, hy, rfl⟩ := List.mem_map.mp hx
      have hy' := (List.mem_filter.mp hy).1
      unfold asked at hy'
      simp only [List.mem_cons, List.not_mem_nil, or_false] at hy'
      rcases hy' with h | h | h | h | h | h
      · rw [h]; exact (show PyData.canLay0 (.str "sum") = true by decide +kernel)
      · rw [h]; exact (show PyData.canLay0 (.str "nothing") = true by decide +kernel)
      · rw [h]; exact (show PyData.canLay0 (.str "measure") = true by decide +kernel)
      · rw [h]; exact (show PyData.canLay0 (.str "twos") = true by decide +kernel)
      · rw [h]; exact (show PyData.canLay0 (.str "odd ones") = true by decide +kernel)
      · rw [h]; exact (show PyData.canLay0 (.str "doubled") = true by decide +kernel)
end MG

/-! MG: what can be shown (repr), by data alone; amounts -/
namespace MG
open PySem PySem.Spec PyProof.Rows L2
def Sh (n c : Nat) (d : PyData) : Prop := d.showable = true ∧ d.depth ≤ n ∧ d.shown.length ≤ c
theorem Sh.le {n c n' c' : Nat} {d : PyData} (h : Sh n c d) (hn : n ≤ n') (hc : c ≤ c') : Sh n' c' d := ⟨h.1, Nat.le_trans h.2.1 hn, Nat.le_trans h.2.2 hc⟩
theorem Sh.int {i : Int} (h : i.natAbs < 2 ^ 300) : Sh 0 301 (.int i) := by
  refine ⟨?_, Nat.le_refl _, int_len (by decide) h⟩
  show decide (i.natAbs.log2 < 1920) = true
  refine decide_eq_true ?_
  by_cases h0 : i.natAbs = 0
  · rw [h0]; decide
  · exact Nat.lt_of_lt_of_le ((Nat.log2_lt h0).mpr h) (by decide)
theorem Sh.str (x : Str) {c : Nat} (h : (reprText x).length ≤ c) : Sh 0 c (.str x) := ⟨rfl, Nat.le_refl _, h⟩
theorem Sh.bool (b : Bool) : Sh 0 5 (.bool b) := ⟨rfl, Nat.le_refl _, by cases b <;> decide +kernel⟩
theorem Sh.none : Sh 0 4 .none := ⟨rfl, Nat.le_refl _, by decide +kernel⟩
theorem shs {n c : Nat} : ∀ {ds : List PyData}, (∀ d ∈ ds, Sh n c d) → PyData.showableAll ds = true ∧ PyData.depthAll ds ≤ n ∧ piled (PyData.shownAll ds) ≤ ds.length * (c + 2)
  | [], _ => ⟨rfl, Nat.zero_le _, by rw [PyData.shownAll, piled_nil]; exact Nat.zero_le _⟩
  | d :: ds, h => by
    obtain ⟨b, e, f⟩ := h d List.mem_cons_self
    obtain ⟨b2, e2, f2⟩ := shs (ds := ds) fun y hy => h y (List.mem_cons_of_mem _ hy)
    refine ⟨?_, ?_, ?_⟩
    · rw [PyData.showableAll, b, b2]; rfl
    · rw [PyData.depthAll]; exact Nat.max_le.mpr ⟨e, e2⟩
    · rw [PyData.shownAll, piled_cons, List.length_cons, Nat.add_mul, Nat.one_mul]
      omega
theorem Sh.tup {n c m : Nat} {ds : List PyData} (h : ∀ d ∈ ds, Sh n c d) (hm : ds.length ≤ m) : Sh (n + 1) (m * (c + 2) + 3) (.tuple ds) := by
  obtain ⟨b1, e1, f1⟩ := shs h
  refine ⟨b1, Nat.succ_le_succ e1, ?_⟩
  have h1 := tupleText_le (PyData.shownAll ds)
  have h2 : ds.length * (c + 2) ≤ m * (c + 2) := Nat.mul_le_mul_right _ hm
  show (tupleText (PyData.shownAll ds)).length ≤ _
  omega
theorem Sh.list {n c m : Nat} {ds : List PyData} (h : ∀ d ∈ ds, Sh n c d) (hm : ds.length ≤ m) : Sh (n + 1) (m * (c + 2) + 3) (.list ds) := by
  obtain ⟨b1, e1, f1⟩ := shs h
  refine ⟨b1, Nat.succ_le_succ e1, ?_⟩
  have h1 := listText_le (PyData.shownAll ds)
  have h2 : ds.length * (c + 2) ≤ m * (c + 2) := Nat.mul_le_mul_right _ hm
  show (listText (PyData.shownAll ds)).length ≤ _
  omega
theorem Sh.row {r : List Int} (h : ∀ n ∈ r, 0 ≤ n ∧ n < 2 ^ 250) (hl : r.length ≤ 40) : Sh 1 (40 * 303 + 3) (rowDt r) := by
  refine Sh.tup (n := 0) (c := 301) (fun d hd => ?_) (by rw [List.length_map]; exact hl)
  obtain ⟨n, hn, rfl⟩ := List.mem_map.mp hd
  obtain ⟨h1, h2⟩ := h n hn
  refine Sh.int (Nat.lt_of_lt_of_le ?_ (show 2 ^ 250 ≤ 2 ^ 300 by decide))
  have : ((n.natAbs : Nat) : Int) < ((2 ^ 250 : Nat) : Int) := by
    rw [Int.natAbs_of_nonneg h1]
    exact h2
  exact Int.ofNat_lt.mp this
theorem brk_word {r o : List Int} {x : Str} (hx : x ∈ brkT r o) : x = "places" ∨ x = "sum" ∨ x = "nothing" ∨ x = "measure" ∨ x = "twos" ∨ x = "odd ones" ∨ x = "doubled" := by
  unfold brkT at hx
  split at hx
  · cases hx
  · split at hx
    · exact .inl (List.mem_singleton.mp hx)
    · unfold MG.clausesOf at hx
      obtain ⟨y, hy, rfl⟩ := List.mem_map.mp hx
      have hy' := (List.mem_filter.mp hy).1
      unfold asked at hy'
      simp only [List.mem_cons, List.not_mem_nil, or_false] at hy'
      rcases hy' with h | h | h | h | h | h <;> rw [h] <;> simp
theorem brk_len (r o : List Int) : (brkT r o).length ≤ 6 := by
  unfold brkT
  split
  · exact Nat.zero_le _
  · split
    · show 1 ≤ 6; decide
    · unfold clausesOf
      rw [List.length_map]
      exact Nat.le_trans (List.length_filter_le _ _) (show (asked r o).length ≤ 6 from Nat.le_refl _)
theorem Sh.brk (r o : List Int) : Sh 1 (6 * 22 + 3) (.tuple ((brkT r o).map PyData.str)) := by
  refine Sh.tup (n := 0) (c := 20) (fun d hd => ?_) (by rw [List.length_map]; exact brk_len r o)
  obtain ⟨x, hx, rfl⟩ := List.mem_map.mp hd
  refine Sh.str x ?_
  rcases brk_word hx with h | h | h | h | h | h | h <;> rw [h] <;> decide +kernel
theorem ddIntsG {H : Hp} : ∀ L : List Int, DdAll H (L.map V.int) (L.map PyData.int)
  | [] => .nil
  | i :: L => .cons (.int i) (ddIntsG L)
theorem ddStrsG {H : Hp} : ∀ L : List Str, DdAll H (L.map V.str) (L.map PyData.str)
  | [] => .nil
  | i :: L => .cons (.str i) (ddStrsG L)
end MG

/-! MG: runs of two, by doubling by rests -/
namespace MG
/-- both parted by the greatest number that parts each -/
def shares (a b : Nat) : Nat := (a + b) / Nat.gcd a b
def due (a b : Nat) : Option Nat := if shares a b / 2 ^ v2 (shares a b) > 1 then none else some (v2 (shares a b))
theorem gcd_rest {a b : Nat} : Nat.gcd a b = Nat.gcd a (a + b) := by rw [Nat.gcd_self_add_right]
theorem gcd_pow_two {f S : Nat} (hS : 0 < S) : Nat.gcd (2 ^ f) S = 2 ^ min f (v2 S) := by
  have hm := odd_rest hS
  have e := v2_split hS
  generalize hmm : S / 2 ^ v2 S = m at hm e
  generalize v2 S = t at e ⊢
  subst e
  have cop : Nat.Coprime (2 ^ f) m := by
    refine Nat.Coprime.pow_left f ?_
    rw [Nat.coprime_iff_gcd_eq_one, Nat.gcd_rec, hm]
    rfl
  rw [Nat.Coprime.gcd_mul_right_cancel_right (2 ^ t) cop.symm]
  by_cases h : f ≤ t
  · rw [Nat.min_eq_left h]
    exact Nat.gcd_eq_left (Nat.pow_dvd_pow 2 h)
  · rw [Nat.min_eq_right (by omega)]
    exact Nat.gcd_eq_right (Nat.pow_dvd_pow 2 (by omega))
section
variable {a b : Nat} (ha : 0 < a) (hb : 0 < b)
include ha hb
theorem shares_pos : 0 < shares a b := by
  have h1 : Nat.gcd a b ≤ a := Nat.le_of_dvd ha (Nat.gcd_dvd_left _ _)
  exact Nat.div_pos (by omega) (Nat.gcd_pos_of_pos_left _ ha)
theorem shares_mul : shares a b * Nat.gcd a b = a + b := by
  unfold shares
  refine Nat.div_mul_cancel ?_
  exact Nat.dvd_add (Nat.gcd_dvd_left _ _) (Nat.gcd_dvd_right _ _)
theorem shares_coprime : Nat.Coprime (a / Nat.gcd a b) (shares a b) := by
  have hg : 0 < Nat.gcd a b := Nat.gcd_pos_of_pos_left _ ha
  have h1 : shares a b = a / Nat.gcd a b + b / Nat.gcd a b := by
    unfold shares
    refine Nat.div_eq_of_eq_mul_right hg ?_
    rw [Nat.mul_add, Nat.mul_div_cancel' (Nat.gcd_dvd_left _ _), Nat.mul_div_cancel' (Nat.gcd_dvd_right _ _)]
  rw [h1, Nat.coprime_iff_gcd_eq_one, Nat.gcd_self_add_right]
  exact Nat.coprime_div_gcd_div_gcd hg
theorem gcd_doubled (f : Nat) : Nat.gcd (a * 2 ^ f) (a + b) = Nat.gcd a b * Nat.gcd (2 ^ f) (shares a b) := by
  have hg : 0 < Nat.gcd a b := Nat.gcd_pos_of_pos_left _ ha
  have e1 : a = Nat.gcd a b * (a / Nat.gcd a b) := (Nat.mul_div_cancel' (Nat.gcd_dvd_left _ _)).symm
  have e2 : a + b = Nat.gcd a b * shares a b := by rw [Nat.mul_comm]; exact (shares_mul ha hb).symm
  have c := shares_coprime ha hb
  generalize shares a b = S at e2 c ⊢
  rw [e2]
  generalize Nat.gcd a b = g at e1 c ⊢
  generalize a / g = A at e1 c
  subst e1
  rw [Nat.mul_assoc, Nat.gcd_mul_left, Nat.Coprime.gcd_mul_left_cancel _ c]
/-- what is left of the first one -/
theorem rest_pos {f : Nat} (h : due a b = none ∨ ∃ d, due a b = some d ∧ f < d) : 0 < a * 2 ^ f % (a + b) := by
  refine Nat.pos_of_ne_zero fun z => ?_
  have hd : (a + b) ∣ a * 2 ^ f := Nat.dvd_of_mod_eq_zero z
  have hS := shares_pos ha hb
  have e : Nat.gcd (a * 2 ^ f) (a + b) = a + b := Nat.gcd_eq_right hd
  rw [gcd_doubled ha hb, gcd_pow_two hS] at e
  have e2 := shares_mul ha hb
  have hg : 0 < Nat.gcd a b := Nat.gcd_pos_of_pos_left _ ha
  have e3 : 2 ^ min f (v2 (shares a b)) = shares a b := by
    rw [← e2, Nat.mul_comm] at e
    exact Nat.eq_of_mul_eq_mul_right hg e
  have hv : v2 (shares a b) = min f (v2 (shares a b)) := v2_unique (m := 1) (by rw [Nat.mul_one]; exact e3.symm) rfl
  have hle : v2 (shares a b) ≤ f := by omega
  have hone : shares a b / 2 ^ v2 (shares a b) = 1 := by
    rw [hv, e3]
    exact Nat.div_self hS
  have hdue : due a b = some (v2 (shares a b)) := by
    unfold due
    rw [if_neg (by rw [hone]; omega)]
  rcases h with h | ⟨d, h, hf⟩
  · rw [hdue] at h; cases h
  · rw [hdue] at h
    cases h
    omega
/-- how many deeds there are behind f of them -/
theorem due_rest {f : Nat} (hp : 0 < a * 2 ^ f % (a + b)) : due (a * 2 ^ f % (a + b)) (a + b - a * 2 ^ f % (a + b)) = (due a b).map (· - f) := by
  have hS := shares_pos ha hb
  have hlt : a * 2 ^ f % (a + b) < a + b := Nat.mod_lt _ (by omega)
  generalize hr : a * 2 ^ f % (a + b) = r at hp hlt ⊢
  have hg : Nat.gcd r (a + b - r) = Nat.gcd a b * 2 ^ min f (v2 (shares a b)) := by
    rw [gcd_rest, show r + (a + b - r) = a + b by omega, ← gcd_pow_two hS, ← gcd_doubled ha hb, ← hr]
    rw [Nat.gcd_comm (a * 2 ^ f), Nat.gcd_rec (a + b) (a * 2 ^ f)]
  have hS' : shares r (a + b - r) = shares a b / 2 ^ min f (v2 (shares a b)) := by
    show (r + (a + b - r)) / Nat.gcd r (a + b - r) = _
    rw [hg, show r + (a + b - r) = a + b by omega, ← Nat.div_div_eq_div_mul]
    rfl
  have e := v2_split hS
  have hm := odd_rest hS
  generalize hmm : shares a b / 2 ^ v2 (shares a b) = m at e hm
  have hS2 : shares r (a + b - r) = 2 ^ (v2 (shares a b) - min f (v2 (shares a b))) * m := by
    rw [hS']
    generalize v2 (shares a b) = t at e ⊢
    rw [e]
    refine Nat.div_eq_of_eq_mul_right (Nat.two_pow_pos _) ?_
    rw [← Nat.mul_assoc, ← Nat.pow_add, show min f t + (t - min f t) = t by omega]
  have hv : v2 (shares r (a + b - r)) = v2 (shares a b) - min f (v2 (shares a b)) := v2_unique hS2 hm
  have ho : shares r (a + b - r) / 2 ^ v2 (shares r (a + b - r)) = m := by
    rw [hv]
    exact Nat.div_eq_of_eq_mul_right (Nat.two_pow_pos _) hS2
  unfold due
  rw [ho, hv, hmm]
  by_cases h1 : m > 1
  · rw [if_pos h1, if_pos h1]; rfl
  · rw [if_neg h1, if_neg h1]
    refine congrArg some ?_
    show v2 (shares a b) - min f (v2 (shares a b)) = v2 (shares a b) - f
    omega
/-- the two rests are the whole -/
theorem rest_sum (f : Nat) : a * 2 ^ f % (a + b) = 0 ∧ b * 2 ^ f % (a + b) = 0 ∨ a * 2 ^ f % (a + b) + b * 2 ^ f % (a + b) = a + b := by
  have hs : 0 < a + b := by omega
  have h1 : (a * 2 ^ f + b * 2 ^ f) % (a + b) = 0 := by
    rw [← Nat.add_mul]
    exact Nat.mul_mod_right _ _
  rw [Nat.add_mod] at h1
  have l1 : a * 2 ^ f % (a + b) < a + b := Nat.mod_lt _ hs
  have l2 : b * 2 ^ f % (a + b) < a + b := Nat.mod_lt _ hs
  generalize a * 2 ^ f % (a + b) = x at h1 l1 ⊢
  generalize b * 2 ^ f % (a + b) = y at h1 l2 ⊢
  by_cases h : x + y < a + b
  · rw [Nat.mod_eq_of_lt h] at h1
    left; omega
  · right
    rw [Nat.mod_eq_sub_mod (by omega), Nat.mod_eq_of_lt (by omega)] at h1
    omega
end
end MG

/-! MG: a run is its deeds -/
namespace MG
open PySem PySem.Spec PyProof.Rows L2
/-- a statement, a word that holds behind it, the rest -/
def tMid (t u : TS) : TS := fun D σ H => ∃ M : L2.St → Hp → Prop, t { D with nx := M } σ H ∧ ∀ σ1 H1, M σ1 H1 → u D σ1 H1
theorem pss_mid {X : Cx} {st : Stmt} {rest : List Stmt} {t u : TS} (a : PS X st t) (b : PSs X rest u) : PSs X (st :: rest) (tMid t u) := by
  constructor
  rintro pins s σ H D I ⟨M, hm, hu⟩
  refine wpAny_execs_cons (thn (a.run pins s σ H { D with nx := M } I hm) ?_)
  intro fl s1 q
  cases fl with
  | next =>
    obtain ⟨σ1, H1, I1, w⟩ := q
    exact b.run pins s1 σ1 H1 D I1 (hu σ1 H1 w)
  | ret v => exact q
  | brk => exact q
  | cont => exact q
def setP (ns : List Int) (i j : Nat) (x : Int) : List Int := (ns.set i x).set j (ns.getD i 0 + ns.getD j 0 - x)
structure Two (ns : List Int) (i j p q : Nat) : Prop where
  hi : i < ns.length
  hj : j < ns.length
  ne : i ≠ j
  ei : ns.getD i 0 = p
  ej : ns.getD j 0 = q
  p0 : 0 < p
  q0 : 0 < q
theorem getD_set {l : List Int} {i j : Nat} {v : Int} (hi : i < l.length) : (l.set i v).getD j 0 = if i = j then v else l.getD j 0 := by
  rw [List.getD_eq_getElem?_getD]
  by_cases h : i = j
  · subst h
    rw [List.getElem?_set_self hi, if_pos rfl]; rfl
  · rw [List.getElem?_set_ne h, if_neg h, List.getD_eq_getElem?_getD]
theorem setP_i {ns : List Int} {i j p q : Nat} (T : Two ns i j p q) (x : Int) : (setP ns i j x).getD i 0 = x := by
  unfold setP
  rw [getD_set (by rw [List.length_set]; exact T.hj), if_neg T.ne.symm, getD_set T.hi, if_pos rfl]
theorem setP_j {ns : List Int} {i j p q : Nat} (T : Two ns i j p q) (x : Int) : (setP ns i j x).getD j 0 = p + q - x := by
  unfold setP
  rw [getD_set (by rw [List.length_set]; exact T.hj), if_pos rfl, T.ei, T.ej]
theorem setP_len (ns : List Int) (i j : Nat) (x : Int) : (setP ns i j x).length = ns.length := by
  unfold setP
  rw [List.length_set, List.length_set]
theorem setP_setP {ns : List Int} {i j p q : Nat} (T : Two ns i j p q) (x y : Int) : setP (setP ns i j x) i j y = setP ns i j y := by
  have h1 := setP_i T x
  have h2 := setP_j T x
  have e : setP (setP ns i j x) i j y = ((setP ns i j x).set i y).set j (p + q - y) := by
    show ((setP ns i j x).set i y).set j ((setP ns i j x).getD i 0 + (setP ns i j x).getD j 0 - y) = _
    rw [h1, h2]
    congr 1
    omega
  have e2 : setP ns i j y = (ns.set i y).set j (p + q - y) := by
    unfold setP
    rw [T.ei, T.ej]
  rw [e, e2]
  unfold setP
  rw [List.set_comm _ _ T.ne.symm, List.set_set, List.set_set]
theorem two_step {ns : List Int} {i j p q : Nat} (T : Two ns i j p q) : ∃ a b, MayG ns a b ∧ deed ns a b = setP ns i j ((2 * p % (p + q) : Nat) : Int) := by
  have hi := T.ei
  have hj := T.ej
  have p0 := T.p0
  have q0 := T.q0
  by_cases h : q ≤ p
  · refine ⟨i, j, ⟨T.hi, T.hj, T.ne, by omega, by omega⟩, ?_⟩
    have e : 2 * p % (p + q) = p - q := by
      rw [show 2 * p = (p - q) + (p + q) by omega, Nat.add_mod_right, Nat.mod_eq_of_lt (by omega)]
    unfold deed setP
    rw [hi, hj, e]
    congr 1
    · congr 1
      omega
    · omega
  · refine ⟨j, i, ⟨T.hj, T.hi, T.ne.symm, by omega, by omega⟩, ?_⟩
    have e : 2 * p % (p + q) = 2 * p := Nat.mod_eq_of_lt (by omega)
    unfold deed setP
    rw [hi, hj, e, List.set_comm _ _ T.ne]
    have e1 : ((2 * p : Nat) : Int) = 2 * (p : Int) := by omega
    rw [e1]
    congr 2
    omega
theorem run_lv {ns : List Int} {i j p q : Nat} (T : Two ns i j p q) (nn : ∀ n ∈ ns, 0 ≤ n) : ∀ k : Nat, (∀ m, m ≤ k → 0 < p * 2 ^ m % (p + q)) → Lv ns (setP ns i j ((p * 2 ^ (k + 1) % (p + q) : Nat) : Int))
  | 0, _ => by
    obtain ⟨a, b, m, e⟩ := two_step T
    have := deed_lv m nn
    rw [e] at this
    rw [show p * 2 ^ (0 + 1) = 2 * p by omega]
    exact this
  | k + 1, h => by
    have ih := run_lv T nn k fun m hm => h m (by omega)
    have hx := h (k + 1) (Nat.le_refl _)
    have hlt : p * 2 ^ (k + 1) % (p + q) < p + q := Nat.mod_lt _ (by have := T.p0; omega)
    generalize hxe : p * 2 ^ (k + 1) % (p + q) = x at ih hx hlt
    have T1 : Two (setP ns i j x) i j x (p + q - x) := ⟨by rw [setP_len]; exact T.hi, by rw [setP_len]; exact T.hj, T.ne, setP_i T x, by rw [setP_j T]; omega, hx, by omega⟩
    obtain ⟨a, b, m, e⟩ := two_step T1
    have h2 := deed_lv m ih.nn
    rw [e, setP_setP T] at h2
    have e2 : 2 * x % (x + (p + q - x)) = p * 2 ^ (k + 1 + 1) % (p + q) := by
      have e3 : p * 2 ^ (k + 1 + 1) = 2 * (p * 2 ^ (k + 1)) := by rw [Nat.pow_succ 2 (k + 1), ← Nat.mul_assoc, Nat.mul_comm]
      rw [show x + (p + q - x) = p + q by omega, ← hxe, e3]
      exact (Nat.mul_mod_mod _ _ _)
    rw [e2] at h2
    exact ih.trans h2
/-- so many deeds as may be done -/
theorem run_due {ns : List Int} {i j p q k : Nat} (T : Two ns i j p q) (nn : ∀ n ∈ ns, 0 ≤ n) (hk : 1 ≤ k) (hd : due p q = none ∨ ∃ d, due p q = some d ∧ k ≤ d) : Lv ns (setP ns i j ((p * 2 ^ k % (p + q) : Nat) : Int)) := by
  obtain ⟨m, rfl⟩ : ∃ m, k = m + 1 := ⟨k - 1, by omega⟩
  refine run_lv T nn m fun f hf => ?_
  have := T.p0
  have := T.q0
  refine rest_pos (by omega) (by omega) ?_
  rcases hd with h | ⟨d, h1, h2⟩
  · exact .inl h
  · exact .inr ⟨d, h1, by omega⟩
/-- the same told from the other one's side -/
theorem setP_rest {ns : List Int} {i j p q k : Nat} (T : Two ns i j p q) : setP ns i j ((p * 2 ^ k % (p + q) : Nat) : Int) = if 0 < q * 2 ^ k % (p + q) then (ns.set i ((p : Int) + q - (q * 2 ^ k % (p + q) : Nat))).set j ((q * 2 ^ k % (p + q) : Nat) : Int) else (ns.set i 0).set j ((p : Int) + q) := by
  have h := rest_sum (a := p) (b := q) T.p0 T.q0 k
  unfold setP
  rw [T.ei, T.ej]
  rcases h with ⟨h1, h2⟩ | h
  · rw [h1, h2, if_neg (by omega)]
    congr 1 <;> omega
  · have hlt : p * 2 ^ k % (p + q) < p + q := Nat.mod_lt _ (by have := T.p0; omega)
    rw [if_pos (by omega)]
    have e1 : ((p * 2 ^ k % (p + q) : Nat) : Int) = (p : Int) + q - (q * 2 ^ k % (p + q) : Nat) := by omega
    rw [e1]
    congr 1 <;> omega
theorem rep_one (z : Str) : repText z 1 = z := by
  unfold repText
  simp
/-- a text of one sign so many times, once too -/
theorem repS0 {X : Cx} : OpR X (binaryOp .Mult) (fun x y H Q => ∃ (z : Str) (n : Int), x = .str z ∧ y = .int n ∧ 1 ≤ n ∧ n ≤ 1000 ∧
    z.length = 1 ∧ (repText z n.toNat).length ≤ sizeLine ∧ Q (.str (repText z n.toNat)) H) := by
  rintro pins s σ H x y v u Q I rx ry ⟨z, n, hx, hy, h1, h2, hz, hs, q⟩
  by_cases h : n = 1
  · subst h
    subst hx hy
    obtain ⟨t, rfl⟩ := rx
    obtain ⟨t2, rfl⟩ := ry
    rw [show (1 : Int).toNat = 1 from rfl, rep_one] at q
    have c2 : ((1 : Int) == 1 || z.length == 0) = true := rfl
    refine PySem.P.mul_str rfl (fun _ e => by rw [c2] at e; cases e) (fun _ e => by rw [c2] at e; cases e) ?_
    rw [if_neg (by decide), if_pos c2]
    exact ⟨.str z, H, I, ⟨_, rfl⟩, q⟩
  · exact repS pins s σ H x y v u Q I rx ry ⟨z, n, hx, hy, by omega, h2, hz, hs, q⟩
theorem tens_text : ∀ n : Nat, n < 25 → 1 ≤ n → PySem.intText? (("1" : Str) ++ repText "0" n) = some (10 ^ n) ∧ (("1" : Str) ++ repText "0" n).length ≤ 640 ∧ (repText "0" n).length ≤ 640 := by
  decide +kernel
end MG

/-! MG: the clause pair -/
namespace MG
open PySem PySem.Spec PyProof.Rows L2
/-- behind how many deeds the other one has a, from x at this one, s together -/
def du (s a : Nat) : Nat → Nat → Nat → Option Nat
  | 0, _, _ => none
  | f + 1, x, k => if s - x = a then some k else if x = 0 then none else du s a f (2 * x % s) (k + 1)
def optV : Option Nat → V
  | none => .non
  | some d => .int d
def cb2 (p q oi oj : Nat) : Bool := if oj = 0 then (du (p + q) oi (p + q) q 0).isSome else (du (p + q) oj (p + q) p 0).isSome
def pairB (r o : List Int) : Bool :=
  match hold r r.length with
  | [i, j] => cb2 (r.getD i.toNat 0).toNat (r.getD j.toNat 0).toNat (o.getD i.toNat 0).toNat (o.getD j.toNat 0).toNat
  | _ => true
def brkF (r o : List Int) : List Str := if r = o then [] else if r.length ≠ o.length then ["places"] else if clausesOf r o ≠ [] ∨ 3 ≤ (hold r r.length).length then clausesOf r o else if pairB r o = true then [] else ["pair"]
theorem brkF_three {r o : List Int} (h : 3 ≤ (hold r r.length).length) : brkF r o = brkT r o := by
  unfold brkF brkT
  rw [if_pos (show clausesOf r o ≠ [] ∨ 3 ≤ (hold r r.length).length from .inr h)]
/-- what is asked of rows of two holders -/
def PairQ (r o : List Int) : Prop := ¬ r = o → r.length = o.length → clausesOf r o = [] → ¬ 3 ≤ (hold r r.length).length → (hold r r.length).length = 2 ∧ r.sum ≤ 100000
theorem PairQ.three {r o : List Int} (h : 3 ≤ (hold r r.length).length) : PairQ r o := fun _ _ _ z => absurd h z
theorem du_none {s a : Nat} : ∀ {f x k : Nat}, (∀ m, s - x * 2 ^ m % s ≠ a) → x < s → du s a f x k = none
  | 0, _, _, _, _ => rfl
  | f + 1, x, k, h, hx => by
    have h0 := h 0
    rw [Nat.pow_zero, Nat.mul_one, Nat.mod_eq_of_lt hx] at h0
    rw [du, if_neg h0]
    split
    · rfl
    · refine du_none (fun m => ?_) (Nat.mod_lt _ (by omega))
      have e : 2 * x % s * 2 ^ m % s = x * 2 ^ (m + 1) % s := by
        rw [Nat.mod_mul_mod, Nat.pow_succ, Nat.mul_comm 2 x, Nat.mul_assoc, Nat.mul_comm (2 ^ m) 2]
      rw [e]
      exact h (m + 1)
theorem hold_two {r : List Int} {i j : Int} (h : hold r r.length = [i, j]) : ∃ p q : Nat, i = p ∧ j = q ∧ p < r.length ∧ q < r.length ∧ p ≠ q ∧ 0 < r.getD p 0 ∧ 0 < r.getD q 0 := by
  obtain ⟨p, rfl, h1, h2⟩ := hold_get (ns := r) (x := i) (by rw [h]; simp)
  obtain ⟨q, rfl, h3, h4⟩ := hold_get (ns := r) (x := j) (by rw [h]; simp)
  refine ⟨p, q, rfl, rfl, h1, h3, fun z => ?_, h2, h4⟩
  subst z
  unfold hold at h
  have nd : (((List.range r.length).filter fun j => decide (0 < r.getD j 0)).map fun (j : Nat) => (j : Int)).Nodup := by
    refine List.Pairwise.map _ (fun a b hab => ?_) (List.Pairwise.filter _ List.nodup_range)
    intro z
    exact hab (by omega)
  rw [h] at nd
  simp at nd
theorem two_le_sum {r : List Int} {p q : Nat} (nn : ∀ n ∈ r, 0 ≤ n) (hp : p < r.length) (hq : q < r.length) (hne : p ≠ q) : r.getD p 0 + r.getD q 0 ≤ r.sum := by
  have h1 := sum_setG r p hp 0
  have nn1 : ∀ n ∈ r.set p 0, 0 ≤ n := fun n hn => by
    rcases List.mem_or_eq_of_mem_set hn with hn | rfl
    · exact nn n hn
    · exact Int.le_refl _
  have hq' : q < (r.set p 0).length := by rw [List.length_set]; exact hq
  have h2 := mem_le_sumG nn1 _ (getD_mem hq')
  rw [getD_set hp, if_neg hne] at h2
  rw [← getD_eq hp] at h1
  omega
end MG

/-! MG: clauses of rows many times; rows of unit 1 -/
namespace MG
open PySem PySem.Spec PyProof.Rows L2
theorem v2_mul {a b : Nat} (ha : 0 < a) (hb : 0 < b) : v2 (a * b) = v2 a + v2 b := by
  have h1 := v2_split ha
  have h2 := v2_split hb
  have o1 := odd_rest ha
  have o2 := odd_rest hb
  refine v2_unique (m := (a / 2 ^ v2 a) * (b / 2 ^ v2 b)) ?_ ?_
  · rw [Nat.pow_add]
    calc a * b = (2 ^ v2 a * (a / 2 ^ v2 a)) * (2 ^ v2 b * (b / 2 ^ v2 b)) := by rw [← h1, ← h2]
      _ = _ := by rw [Nat.mul_assoc, Nat.mul_assoc, Nat.mul_left_comm (a / 2 ^ v2 a)]
  · rw [Nat.mul_mod, o1, o2]
theorem odd_mul {a b : Nat} (ha : 0 < a) (hb : 0 < b) : a * b / 2 ^ v2 (a * b) = (a / 2 ^ v2 a) * (b / 2 ^ v2 b) := by
  have h1 := v2_split ha
  have h2 := v2_split hb
  rw [v2_mul ha hb, Nat.pow_add]
  refine Nat.div_eq_of_eq_mul_right (Nat.mul_pos (Nat.two_pow_pos _) (Nat.two_pow_pos _)) ?_
  calc a * b = (2 ^ v2 a * (a / 2 ^ v2 a)) * (2 ^ v2 b * (b / 2 ^ v2 b)) := by rw [← h1, ← h2]
    _ = _ := by rw [Nat.mul_assoc, Nat.mul_assoc, Nat.mul_left_comm (a / 2 ^ v2 a)]
def sc (c : Int) (r : List Int) : List Int := r.map fun n => c * n
theorem sc_len (c : Int) (r : List Int) : (sc c r).length = r.length := List.length_map _
theorem sc_inj {c : Int} (hc : 0 < c) : ∀ {r o : List Int}, sc c r = sc c o → r = o
  | [], [], _ => rfl
  | [], _ :: _, h => nomatch h
  | _ :: _, [], h => nomatch h
  | x :: r, y :: o, h => by
    have h1 : c * x = c * y := (List.cons.inj h).1
    have h2 : sc c r = sc c o := (List.cons.inj h).2
    rw [Int.eq_of_mul_eq_mul_left (by omega) h1, sc_inj hc h2]
theorem sc_sum (c : Int) : ∀ r : List Int, (sc c r).sum = c * r.sum
  | [] => by show (0 : Int) = c * 0; omega
  | x :: r => by
    have ih := sc_sum c r
    show c * x + (sc c r).sum = c * (x + r.sum)
    rw [ih, Int.mul_add]
theorem dec_iff {p q : Prop} [Decidable p] [Decidable q] (h : p ↔ q) : decide p = decide q := by
  by_cases hp : p
  · rw [decide_eq_true hp, decide_eq_true (h.mp hp)]
  · rw [decide_eq_false hp, decide_eq_false (fun z => hp (h.mpr z))]
theorem mul_pos_iff' {c n : Int} (hc : 0 < c) : 0 < c * n ↔ 0 < n := by
  constructor
  · intro h
    by_cases z : 0 < n
    · exact z
    · have := Int.mul_nonpos_of_nonneg_of_nonpos (show 0 ≤ c by omega) (show n ≤ 0 by omega)
      omega
  · exact fun h => Int.mul_pos hc h
theorem sc_hfn {c : Int} (hc : 0 < c) : ∀ r o : List Int, hfn (sc c r) (sc c o) = hfn r o
  | [], _ => rfl
  | _ :: _, [] => rfl
  | x :: r, y :: o => by
    have ih := sc_hfn hc r o
    unfold hfn at ih ⊢
    show ((decide (c * x = 0) && decide (c * y > 0)) || _) = ((decide (x = 0) && decide (y > 0)) || _)
    have e1 : decide (c * x = 0) = decide (x = 0) := dec_iff (by
      constructor
      · intro h
        rcases Int.mul_eq_zero.mp h with h | h
        · omega
        · exact h
      · intro h; rw [h, Int.mul_zero])
    have e2 : decide (c * y > 0) = decide (y > 0) := dec_iff (mul_pos_iff' hc)
    rw [e1, e2]
    congr 1
theorem sc_cnt {c : Int} (hc : 0 < c) (r : List Int) : cnt (sc c r) = cnt r := by
  unfold cnt sc
  rw [List.filter_map, List.length_map]
  congr 1
  refine List.filter_congr fun n _ => ?_
  show decide (0 < c * n) = decide (0 < n)
  exact dec_iff (mul_pos_iff' hc)
theorem sc_hold {c : Int} (hc : 0 < c) (r : List Int) : (hold (sc c r) (sc c r).length).length = (hold r r.length).length := by
  rw [← cnt_hold, ← cnt_hold, sc_cnt hc]
theorem sc_gl {c : Int} (hc : 0 < c) {r : List Int} (nn : ∀ n ∈ r, 0 ≤ n) : gl (sc c r) = c.toNat * gl r := gl_mul c (by omega) nn
theorem ms_nat (r : List Int) : ms r = ((gl r / 2 ^ v2 (gl r) : Nat) : Int) := by
  unfold ms
  rw [Int.natCast_ediv, Int.natCast_pow]; rfl
theorem sc_ms {c : Int} (hc : 0 < c) {r : List Int} (nn : ∀ n ∈ r, 0 ≤ n) (h0 : 0 < gl r) : ms (sc c r) = ((c.toNat / 2 ^ v2 c.toNat * (gl r / 2 ^ v2 (gl r)) : Nat) : Int) := by
  rw [ms_nat, sc_gl hc nn, odd_mul (by omega) h0]
theorem sc_v2 {c : Int} (hc : 0 < c) {r : List Int} (nn : ∀ n ∈ r, 0 ≤ n) (h0 : 0 < gl r) : v2 (gl (sc c r)) = v2 c.toNat + v2 (gl r) := by
  rw [sc_gl hc nn, v2_mul (by omega) h0]
theorem sc_od {c : Int} (hc : 0 < c) {r : List Int} (nn : ∀ n ∈ r, 0 ≤ n) (h0 : 0 < gl r) : od (sc c r) = od r := by
  unfold od fewT
  rw [sc_v2 hc nn h0]
  unfold sc
  rw [List.filter_map, List.length_map]
  congr 1
  refine List.filter_congr fun n hn => ?_
  show (decide (c * n > 0) && decide (v2 (c * n).toNat ≤ v2 c.toNat + v2 (gl r))) = (decide (n > 0) && decide (v2 n.toNat ≤ v2 (gl r)))
  have hn0 := nn n hn
  by_cases z : 0 < n
  · rw [decide_eq_true ((mul_pos_iff' hc).mpr z), decide_eq_true (show n > 0 from z), Int.toNat_mul (by omega) hn0, v2_mul (by omega) (by omega)]
    congr 1
    exact dec_iff (by omega)
  · rw [decide_eq_false (fun y => z ((mul_pos_iff' hc).mp y)), decide_eq_false (show ¬ n > 0 from z)]
    rfl
theorem sc_clauses {c : Int} (hc : 0 < c) {r o : List Int} (nr : ∀ n ∈ r, 0 ≤ n) (no : ∀ n ∈ o, 0 ≤ n) (hr : 0 < gl r) (ho : 0 < gl o) : clausesOf (sc c r) (sc c o) = clausesOf r o := by
  unfold clausesOf asked
  rw [sc_sum, sc_sum, sc_hfn hc, sc_v2 hc nr hr, sc_v2 hc no ho, sc_od hc nr hr, sc_od hc no ho, sc_hold hc]
  have e1 : decide (c * o.sum ≠ c * r.sum) = decide (o.sum ≠ r.sum) := dec_iff (by
    constructor
    · exact fun h z => h (by rw [z])
    · exact fun h z => h (Int.eq_of_mul_eq_mul_left (by omega) z))
  have pc : 0 < c.toNat / 2 ^ v2 c.toNat := by
    have h1 := odd_rest (n := c.toNat) (by omega)
    rcases Nat.eq_zero_or_pos (c.toNat / 2 ^ v2 c.toNat) with h | h
    · rw [h] at h1; cases h1
    · exact h
  have e3 : decide (ms (sc c o) ≠ ms (sc c r)) = decide (ms o ≠ ms r) := by
    rw [sc_ms hc no ho, sc_ms hc nr hr, ms_nat o, ms_nat r]
    refine dec_iff ?_
    constructor
    · intro h z
      exact h (by rw [Int.ofNat_inj.mp z])
    · intro h z
      have := Nat.eq_of_mul_eq_mul_left pc (Int.ofNat_inj.mp z)
      exact h (by rw [this])
  have e4 : decide (v2 c.toNat + v2 (gl o) < v2 c.toNat + v2 (gl r)) = decide (v2 (gl o) < v2 (gl r)) := dec_iff (by omega)
  have e5 : decide (v2 c.toNat + v2 (gl o) = v2 c.toNat + v2 (gl r)) = decide (v2 (gl o) = v2 (gl r)) := dec_iff (by omega)
  rw [e1, e3, e4, e5]
theorem sc_brk {c : Int} (hc : 0 < c) {r o : List Int} (nr : ∀ n ∈ r, 0 ≤ n) (no : ∀ n ∈ o, 0 ≤ n) (hr : 0 < gl r) (ho : 0 < gl o) : brkT (sc c r) (sc c o) = brkT r o := by
  unfold brkT
  rw [sc_len, sc_len, sc_clauses hc nr no hr ho]
  by_cases h : r = o
  · rw [if_pos h, if_pos (by rw [h])]
  · rw [if_neg h, if_neg (fun z => h (sc_inj hc z))]
/-! ### rows of unit 1 -/
def oddc (l : List Int) : Nat := (l.filter fun n => decide (n % 2 = 1)).length
theorem few0 {l : List Int} (nn : ∀ n ∈ l, 0 ≤ n) : (fewT 0 l).length = oddc l := by
  unfold fewT oddc
  congr 1
  refine List.filter_congr fun n hn => ?_
  have h0 := nn n hn
  by_cases z : n % 2 = 1
  · rw [decide_eq_true z, decide_eq_true (show n > 0 by omega), decide_eq_true (show v2 n.toNat ≤ 0 by rw [v2_odd (by omega)]; exact Nat.le_refl _)]
    rfl
  · rw [decide_eq_false z]
    by_cases y : n > 0
    · rw [decide_eq_true y, decide_eq_false (show ¬ v2 n.toNat ≤ 0 by rw [v2_even (by omega) (by omega)]; omega)]; rfl
    · rw [decide_eq_false y]; rfl
theorem odd_sum : ∀ {l : List Int}, l.sum % 2 = (oddc l : Int) % 2
  | [] => rfl
  | x :: l => by
    have ih := odd_sum (l := l)
    rw [List.sum_cons]
    unfold oddc at ih ⊢
    by_cases h : x % 2 = 1
    · rw [List.filter_cons_of_pos (by simpa using h), List.length_cons]; omega
    · rw [List.filter_cons_of_neg (by simpa using h)]; omega
theorem oddc_perm {a b : List Int} (h : a.Perm b) : oddc a = oddc b := (h.filter _).length_eq
theorem oddc_append (a b : List Int) : oddc (a ++ b) = oddc a + oddc b := by
  unfold oddc
  rw [List.filter_append, List.length_append]
theorem oddc_zeros (k : Nat) : oddc (List.replicate k 0) = 0 := by
  unfold oddc
  rw [List.filter_eq_nil_iff.mpr (fun n hn => by rw [List.eq_of_mem_replicate hn]; decide)]; rfl
theorem cnt_append (a b : List Int) : cnt (a ++ b) = cnt a + cnt b := by
  unfold cnt
  rw [List.filter_append, List.length_append]
theorem cnt_zeros (k : Nat) : cnt (List.replicate k 0) = 0 := by
  unfold cnt
  rw [List.filter_eq_nil_iff.mpr (fun n hn => by rw [List.eq_of_mem_replicate hn]; decide)]; rfl
theorem cnt_perm {a b : List Int} (h : a.Perm b) : cnt a = cnt b := (h.filter _).length_eq
/-- a row: its unit's twos t, its measure m -/
structure Ru (r : List Int) (S : Int) (g k c : Nat) : Prop where
  nn : ∀ n ∈ r, 0 ≤ n
  sum : r.sum = S
  gl : gl r = g
  odd : oddc r = k
  cnt : MG.cnt r = c
theorem Ru.perm {a b : List Int} {S : Int} {g k c m : Nat} (h : Ru a S g k c) (pm : b.Perm (a ++ List.replicate m 0)) : Ru b S g k c := by
  refine ⟨fun n hn => ?_, ?_, ?_, ?_, ?_⟩
  · rcases List.mem_append.mp (pm.mem_iff.mp hn) with z | z
    · exact h.nn n z
    · rw [List.eq_of_mem_replicate z]; exact Int.le_refl _
  · have e : ∀ {x y : List Int}, x.Perm y → x.sum = y.sum := fun hp => by
      induction hp with
      | nil => rfl
      | cons x _ ih => rw [List.sum_cons, List.sum_cons, ih]
      | swap x y l => rw [List.sum_cons, List.sum_cons, List.sum_cons, List.sum_cons]; omega
      | trans _ _ i1 i2 => rw [i1, i2]
    have z : ∀ k : Nat, (List.replicate k (0 : Int)).sum = 0 := fun k => by
      induction k with
      | zero => rfl
      | succ k ih => rw [List.replicate_succ, List.sum_cons, ih]; rfl
    rw [e pm, List.sum_append, z, h.sum]; omega
  · rw [gl_perm pm, gl_append, gl_zeros, Nat.gcd_zero_right, h.gl]
  · rw [oddc_perm pm, oddc_append, oddc_zeros, h.odd]; rfl
  · rw [cnt_perm pm, cnt_append, cnt_zeros, h.cnt]; rfl
/-- of two rows of odd units -/
theorem cl_odd {r o : List Int} {S S' : Int} {g g' k k' c c' : Nat} (a : Ru r S g k c) (b : Ru o S' g' k' c') (hg : g % 2 = 1) (hg' : g' % 2 = 1) :
    clausesOf r o = (([("sum", decide (S' ≠ S)), ("nothing", hfn r o), ("measure", decide (g' ≠ g)), ("odd ones", decide (k < k')), ("doubled", decide (k' = c'))] : List (Str × Bool)).filter fun p => p.2).map fun p => p.1 := by
  have v1 : v2 (MG.gl r) = 0 := by rw [a.gl]; exact v2_odd hg
  have w1 : v2 (MG.gl o) = 0 := by rw [b.gl]; exact v2_odd hg'
  have o1 : od r = k := by unfold od; rw [v1, few0 a.nn, a.odd]
  have o2 : od o = k' := by unfold od; rw [w1, few0 b.nn, b.odd]
  have m1 : ms r = (g : Int) := by rw [ms_nat, v1, a.gl, Nat.pow_zero, Nat.div_one]
  have m2 : ms o = (g' : Int) := by rw [ms_nat, w1, b.gl, Nat.pow_zero, Nat.div_one]
  unfold clausesOf asked
  rw [a.sum, b.sum, m1, m2, v1, w1, o1, o2, ← cnt_hold, b.cnt]
  have e3 : decide ((g' : Int) ≠ g) = decide (g' ≠ g) := dec_iff (by omega)
  rw [e3, decide_eq_false (show ¬ 0 < 0 by omega), decide_eq_true (show 0 = 0 from rfl), Bool.true_and, Bool.true_and]
  rfl
/-- the row's unit twice an odd one, the other one's odd -/
theorem cl_twos {r o : List Int} {S : Int} {g k k' c c' : Nat} (a : Ru r S (2 * g) k c) (b : Ru o S g k' c') (hg : g % 2 = 1) (hh : hfn r o = false) : clausesOf r o = (["twos"] : List Str) := by
  have v1 : v2 (MG.gl r) = 1 := by rw [a.gl, v2_mul2 (by omega), v2_odd hg]
  have w1 : v2 (MG.gl o) = 0 := by rw [b.gl]; exact v2_odd hg
  have m1 : ms r = (g : Int) := by rw [ms_nat, v1, a.gl, Nat.pow_one, Nat.mul_div_cancel_left _ (by decide)]
  have m2 : ms o = (g : Int) := by rw [ms_nat, w1, b.gl, Nat.pow_zero, Nat.div_one]
  unfold clausesOf asked
  rw [a.sum, b.sum, m1, m2, v1, w1, hh, decide_eq_false (show ¬ (S ≠ S) from fun z => z rfl), decide_eq_false (show ¬ ((g : Int) ≠ g) from fun z => z rfl), decide_eq_false (show ¬ 0 = 1 by decide)]
  rfl
end MG

namespace K56
open PySem PySem.Spec PyProof.Rows L2 MG
/-- a statement, a word that holds behind it, the rest -/
def tMid (t u : TS) : TS := fun D σ H => ∃ M : L2.St → Hp → Prop, t { D with nx := M } σ H ∧ ∀ σ1 H1, M σ1 H1 → u D σ1 H1
theorem pss_mid {X : Cx} {st : Stmt} {rest : List Stmt} {t u : TS} (a : PS X st t) (b : PSs X rest u) : PSs X (st :: rest) (tMid t u) := by
  constructor
  rintro pins s σ H D I ⟨M, hm, hu⟩
  refine wpAny_execs_cons (thn (a.run pins s σ H { D with nx := M } I hm) ?_)
  intro fl s1 q
  cases fl with
  | next =>
    obtain ⟨σ1, H1, I1, w⟩ := q
    exact b.run pins s1 σ1 H1 D I1 (hu σ1 H1 w)
  | ret v => exact q
  | brk => exact q
  | cont => exact q

abbrev sLine : Stmt := topS 57
abbrev nLine : List Str := ["_law_box_here", "_law_least", "_law_greatest", "_law_most", "_law_many", "_law_way", "_law_share", "_law_total", "_law_amounts", "_law_amount"]
theorem scLine : FnScope ["_law_box_here", "_law_least", "_law_greatest", "_law_most", "_law_many", "_law_way", "_law_share", "_law_total", "_law_amounts", "_law_amount"] ["_law_box_here", "_law_least", "_law_greatest", "_law_most"] (defScope sLine) := ⟨rfl, rfl, rfl, by decide +kernel, rfl, by decide +kernel, by decide +kernel⟩

section
variable {P : Program} {w : World} {K : PySem.W.Frag} {mg : Str → Option Value} {base : Heap}
def spLine : Sp := fun vs H Q _ => ∃ (b : Addr) (least greatest most : Int) (n : Nat), vs = [.ref b, .int least, .int greatest, .int most] ∧ Box H b n ∧ n ≤ 800000 ∧ 1 ≤ least ∧ least ≤ greatest ∧ greatest ≤ 15 ∧ 1 ≤ most ∧ most ≤ 10 ^ 38 ∧
  ∀ p H' (ns : List Int), H p = none → (least ≤ ns.length) → (ns.length ≤ greatest + 2) → (∀ x ∈ ns, 0 ≤ x ∧ x ≤ 24 * (most + 16)) → (least ≤ cnt ns ∧ (cnt ns : Int) ≤ greatest) → Box H' b (n + 100) → SX b H H' → H' p = some (.tup (ns.map V.int)) → Q (.ref p) H'
theorem ok_line {f fT fO fS fP : Addr} {fd fdT fdO fdS fdP : FuncData} {k : Nat} (F : Fun K "_law_row" "_law_row" sLine f fd)
    (FT : Fun K "_law_take" "_law_take" sTake fT fdT) (bT : Binds K fdT ["_law_box_here", "_law_many"] []) (gT : mg "_law_take" = some (.ref fT))
    (FO : Fun K "_law_of" "_law_of" sOf fO fdO) (bO : Binds K fdO ["_law_box_here", "_law_some"] []) (gO : mg "_law_of" = some (.ref fO))
    (FS : Fun K "_law_split" "_law_split" sSplit fS fdS) (bS : Binds K fdS ["_law_box_here", "_law_total", "_law_many"] []) (gS : mg "_law_split" = some (.ref fS)) (GS : FnOk P w K mg base CX0 (k + 2) fS fdS ["_law_box_here", "_law_total", "_law_many"] spSplit)
    (FP : Fun K "_law_places" "_law_places" sPlaces fP fdP) (bP : Binds K fdP ["_law_box_here", "_law_amounts", "_law_nothing"] []) (gP : mg "_law_places" = some (.ref fP)) (GP : FnOk P w K mg base CX0 (k + 2) fP fdP ["_law_box_here", "_law_amounts", "_law_nothing"] spPlaces)
    (ml : mg "len" = none) (mM : mg "max" = none) :
    FnOk P w K mg base CX0 (k + 3) f fd ["_law_box_here", "_law_least", "_law_greatest", "_law_most"] spLine := by
  have GT : FnOk P w K mg base CX0 (k + 1) fT fdT ["_law_box_here", "_law_many"] spTake := ok_take FT
  have GO : FnOk P w K mg base CX0 (k + 2) fO fdO ["_law_box_here", "_law_some"] spOf := ok_of FO FT bT gT ml
  refine F.ok scLine (fun vs H Q E h => ?_) (fun cdv A outer s H vs Q E hr h => ?_)
  · obtain ⟨b, least, greatest, most, n, rfl, _⟩ := h
    rfl
  · obtain ⟨b, least, greatest, most, n, rfl, hB, hn, a1, a2, a3, a4, a5, q⟩ := h
    have hr1 := hr.mono (show k + 1 ≤ k + 2 by omega)
    refine ⟨_, pss_cons (ps_set (i := 4) scLine.nd rfl (.inl rfl) (pe_op op_add (pv 1) (pe_call GT hr1 (by rfl) gT FT.kp bT .nil pass0 (pa_cons (pv 0) (pa_cons (pe_op op_add (pe_op op_sub (pv 2) (pv 1)) pe_int) pa_nil)))))
      (pss_cons (ps_asg (pe_tup (pa_cons (pe_call GT hr1 (by rfl) gT FT.kp bT .nil pass0 (pa_cons (pv 0) (pa_cons pe_int pa_nil)))
          (pa_cons (pe_call GO hr (by rfl) gO FO.kp bO .nil pass0 (pa_cons (pv 0) (pa_cons (pe_lst (pa_cons pe_int (pa_cons pe_int (pa_cons pe_int (pa_cons pe_int (pa_cons pe_int (pa_cons pe_int (pa_cons pe_int pa_nil)))))))) pa_nil))) pa_nil)))
          (pg_tup rfl (pgs_cons (pg_name (i := 5) scLine.nd rfl (.inl rfl)) (pgs_cons (pg_name (i := 6) scLine.nd rfl (.inr rfl)) pgs_nil))))
      (pss_cons (ps_set (i := 7) scLine.nd rfl (.inl rfl) (pe_callB (call_max2 rfl) (by rfl) mM (by decide +kernel) (pa_cons (pv 4) (pa_cons (pe_op op_add pe_int
          (pe_call GT hr1 (by rfl) gT FT.kp bT .nil pass0 (pa_cons (pv 0) (pa_cons (pe_callB (call_max2 rfl) (by rfl) mM (by decide +kernel) (pa_cons pe_int (pa_cons (pe_op op_fdivW (pv 3) (pv 6)) pa_nil))) pa_nil)))) pa_nil))))
      (pss_cons (ps_set (i := 8) scLine.nd rfl (.inl rfl) (pe_call GS hr (by rfl) gS FS.kp bS .nil pass0 (pa_cons (pv 0) (pa_cons (pv 7) (pa_cons (pv 4) pa_nil)))))
      (pss_mid (ps_if (pt_cmpR op_eq (pv 5) pe_int (nomark _))
          (pss_one (ps_setLc (i := 8) (own := [("_law_amount", 9)]) (g := gName 9) (tt := tYes) rfl scLine.nd rfl rfl (sw_true rfl rfl rfl (by decide +kernel)) (pi_list (pv 8))
            (blkOk_by (N := nLine) (sc := defScope sLine) (by decide +kernel)) (fun _ _ _ _ _ => pg_name (i := 9) scLine.nd rfl (Or.inl rfl)) (fun _ _ _ _ _ => pts_nil)
            (fun _ _ _ _ _ => pe_op op_add (pe_op op_mul pe_int (pe_op op_fdiv (pv 9) pe_int)) pe_int)))
          (pss_one (ps_if (pt_cmpR op_eq (pv 5) pe_int (nomark _))
            (pss_one (ps_set (i := 8) scLine.nd rfl (.inl rfl) (pe_op op_rep (pe_lst (pa_cons (pe_ix ix_list (pv 8) pe_int (fun _ _ => rfl)) pa_nil)) (pv 4))))
            (pss_one (ps_if (pt_cmpR op_eq (pv 5) pe_int (nomark _))
              (pss_one (ps_set (i := 8) scLine.nd rfl (.inl rfl) (pe_op op_cat (pe_lst (pa_cons (pe_ix ix_list (pv 8) pe_int (fun _ _ => rfl)) pa_nil))
                (pe_lc (own := [("_law_amount", 9)]) (g := gName 9) (tt := tYes) rfl scLine.nd (pi_list (pe_slice sl_list (pv 8) (po_some pe_int) po_none))
                  (blkOk_by (N := nLine) (sc := defScope sLine) (by decide +kernel)) (fun _ _ _ _ _ => pg_name (i := 9) scLine.nd rfl (Or.inl rfl)) (fun _ _ _ _ _ => pts_nil)
                  (fun _ _ _ _ _ => pe_op op_mul pe_int (pv 9))))))
              pss_nil)))))
      (pss_one (ps_ret (pe_call GP hr (by rfl) gP FP.kp bP .nil pass0 (pa_cons (pv 0) (pa_cons
          (pe_lc (own := [("_law_amount", 9)]) (g := gName 9) (tt := tYes) rfl scLine.nd (pi_list (pv 8))
            (blkOk_by (N := nLine) (sc := defScope sLine) (by decide +kernel)) (fun _ _ _ _ _ => pg_name (i := 9) scLine.nd rfl (Or.inl rfl)) (fun _ _ _ _ _ => pts_nil)
            (fun _ _ _ _ _ => pe_op op_mul (pv 6) (pv 9)))
          (pa_cons (pe_call GO hr (by rfl) gO FO.kp bO .nil pass0 (pa_cons (pv 0) (pa_cons (pe_lst (pa_cons pe_int (pa_cons pe_int (pa_cons pe_int (pa_cons pe_int (pa_cons pe_int pa_nil)))))) pa_nil))) pa_nil)))))))))), ?_⟩
    obtain ⟨bo, bz⟩ := hB.get
    refine ⟨_, rfl, _, rfl, _, rfl, _, rfl, greatest, least, rfl, rfl, _, 1, rfl, rfl, b, greatest - least + 1, n, rfl, hB, by omega, by omega, by omega, fun r1 H1 r10 r11 hB1 k1 => ⟨least, r1, rfl, rfl, ?_⟩⟩
    refine ⟨_, rfl, b, 6, n + 1, rfl, hB1, by omega, by decide, by decide, fun wy H2 w0 w1 hB2 k2 => ?_⟩
    refine ⟨_, rfl, by show 7 ≤ sizeLine; decide, fun l nl => ?_⟩
    have x2 : SX b H H2 := (SX.of_eq k1).trans (.of_eq k2)
    obtain ⟨bo2, bz2⟩ := hB2.get
    refine ⟨b, l, n + 1 + 1, _, rfl, hB2.new nl, by omega, upd_same, ne_of_none bz2 nl, by show 1 ≤ 7; decide, by show 7 ≤ 10000000; decide, fun sc H3 hsc hB3 k3 => ?_⟩
    obtain ⟨scale, rfl, sc1, sc6⟩ : ∃ v : Int, sc = .int v ∧ 1 ≤ v ∧ v ≤ 6 := by
      simp only [List.mem_cons, List.not_mem_nil, or_false] at hsc
      rcases hsc with h | h | h | h | h | h | h <;> exact ⟨_, h, by decide, by decide⟩
    have x3 : SX b H H3 := (x2.new nl).trans (.of_eq k3)
    refine ⟨by show 2 ≤ sizeLine; decide, fun tp ntp => ?_⟩
    refine ⟨tp, _, rfl, SqT.of upd_same, rfl, .int wy, [.int scale], rfl, .int scale, [], rfl, rfl, ?_⟩
    have x4 : SX b H (upd H3 tp (.tup [.int wy, .int scale])) := x3.new ntp
    have hB4 : Box (upd H3 tp (.tup [.int wy, .int scale])) b (n + 1 + 1 + 1) := hB3.new ntp
    generalize upd H3 tp (HO.tup [.int wy, .int scale]) = H4 at x4 hB4 ⊢
    have hdiv : CDivW most scale := wide_div (b := 10) (by omega) (by omega) (by decide) (by decide)
    have q0 : 0 ≤ most / scale := Int.ediv_nonneg (by omega) (by omega)
    have q1 : most / scale ≤ most := Int.ediv_le_self _ (by omega)
    have hmt1 : 1 ≤ (if most / scale > 1 then most / scale else 1) := by split <;> omega
    have hmt2 : (if most / scale > 1 then most / scale else 1) ≤ 10 ^ 38 := by split <;> omega
    refine ⟨_, rfl, _, rfl, _, rfl, _, rfl, most, scale, rfl, rfl, hdiv, 1, _, rfl, b, _, n + 1 + 1 + 1, rfl, hB4, by omega, hmt1, by omega, fun r2 H5 r20 r21 hB5 k5 => ⟨1, r2, rfl, rfl, _, _, rfl, ?_⟩⟩
    have x5 : SX b H H5 := x4.trans (.of_eq k5)
    dsimp only
    generalize hmany : least + r1 = many
    generalize htot : (if 1 + r2 > many then 1 + r2 else many) = total
    have t1 : many ≤ total := by rw [← htot]; split <;> omega
    have t2 : total ≤ 10 ^ 39 := by rw [← htot]; split <;> omega
    have t3 : total ≤ most + 16 := by
      have : (if most / scale > 1 then most / scale else 1) ≤ most := by split <;> omega
      rw [← htot]; split <;> omega
    refine ⟨_, rfl, _, rfl, _, rfl, b, total, many, n + 1 + 1 + 1 + 1, rfl, hB5, by omega, by omega, by omega, t1, t2, fun pa H6 ns6 np6 hl6 hx6 hB6 x6' e_pa => ?_⟩
    have x6 : SX b H H6 := x5.trans x6'
    have hl7 : ns6.length ≤ 15 := by omega
    refine ⟨fun σ H' => ∃ pa ns y9, σ = [some (.ref b), some (.int least), some (.int greatest), some (.int most), some (.int many), some (.int wy), some (.int scale), some (.int total), some (.ref pa), y9] ∧ H' pa = some (.lst (List.map V.int ns)) ∧ (ns.length : Int) = many ∧ (∀ x ∈ ns, 1 ≤ x ∧ x ≤ 2 * total + 1) ∧ SX b H H' ∧ Box H' b (n + 24), ?_, ?_⟩
    · have stay : ∀ {H' : Hp}, Same H6 H' → SX b H H' ∧ Box H' b (n + 24) := fun sm => by
        obtain ⟨o, z⟩ := hB6.get
        exact ⟨x6.trans (.of_same sm), (hB6.at (by rw [sm _ _ z, z])).le (by omega)⟩
      refine ⟨_, rfl, rfl, _, rfl, ite2 (fun _ => ?_) (fun _ => ?_)⟩
      · refine ⟨.ref pa, rfl, pa, rfl, ⟨_, SqL.of e_pa⟩, fun D nD => ?_⟩
        refine lc_list (K := K) (a := pa) (xs := ns6.map V.int) (fun i H' => Same H6 H' ∧ H' D = some (.lst (((ns6.take i).map fun x => 2 * (x / 2) + 1).map V.int))) ⟨same_upd nD, upd_same⟩ ?_ ?_ ?_
        · rintro i H' _ ⟨sm, _⟩
          exact SqL.of (sm _ _ e_pa)
        · rintro i x H' hx ⟨sm, hD⟩
          rw [List.getElem?_map] at hx
          obtain ⟨v, hv, rfl⟩ := Option.map_eq_some_iff.mp hx
          refine ⟨rfl, _, rfl, v, 2, rfl, rfl, ⟨by decide, by decide⟩, 2, _, rfl, rfl, .inl ⟨by decide, by decide⟩, _, 1, rfl, rfl, _, hD, ?_, ?_, ?_⟩
          · rw [List.length_map, List.length_map, List.length_take]
            exact small1000 (by omega)
          · intro c o hc
            rw [upd_ne (ne_of_none hc nD)]
            exact sm c o hc
          · rw [upd_same, List.take_add_one, hv, List.map_append, List.map_append]
            rfl
        · rintro H' ⟨sm, hD⟩
          rw [List.length_map, List.take_length] at hD
          refine ⟨D, ns6.map fun x => 2 * (x / 2) + 1, _, rfl, hD, by rw [List.length_map]; exact hl6, ?_, stay sm⟩
          intro y hy
          obtain ⟨z, hz, rfl⟩ := List.mem_map.mp hy
          have := hx6 z hz
          omega
      refine ⟨_, rfl, rfl, _, rfl, ite2 (fun _ => ?_) (fun _ => ?_)⟩
      · have h0 : 0 < ns6.length := by omega
        refine ⟨.ref pa, rfl, pa, _, 0, .int ns6[0], rfl, rfl, SqL.of e_pa, atI_nat (j := 0) (by rw [List.getElem?_map, List.getElem?_eq_getElem h0]; rfl), by show 1 ≤ sizeLine; decide, fun l2 n2 => ?_⟩
        refine ⟨_, rfl, l2, many, [.int ns6[0]], rfl, rfl, upd_same, by omega, by omega, by show 1 * many.toNat ≤ sizeLine; rw [sizeLine_eq]; omega, fun l3 n3 => ?_⟩
        have er : (List.replicate many.toNat [V.int ns6[0]]).flatten = (List.replicate many.toNat ns6[0]).map V.int := by
          induction many.toNat with
          | zero => rfl
          | succ m ih => rw [List.replicate_succ, List.flatten_cons, ih, List.replicate_succ]; rfl
        rw [er]
        refine ⟨l3, List.replicate many.toNat ns6[0], _, rfl, upd_same, by rw [List.length_replicate]; omega, ?_, stay ((same_upd n2).trans (same_upd n3))⟩
        intro y hy
        rw [List.eq_of_mem_replicate hy]
        have := hx6 _ (List.getElem_mem h0)
        omega
      refine ⟨_, rfl, rfl, _, rfl, ite2 (fun _ => ?_) (fun _ => ?_)⟩
      · have h0 : 0 < ns6.length := by omega
        refine ⟨.ref pa, rfl, pa, _, 0, .int ns6[0], rfl, rfl, SqL.of e_pa, atI_nat (j := 0) (by rw [List.getElem?_map, List.getElem?_eq_getElem h0]; rfl), by show 1 ≤ sizeLine; decide, fun l2 n2 => ?_⟩
        have s7 : Same H6 (upd H6 l2 (.lst [.int ns6[0]])) := same_upd n2
        have g7 : upd H6 l2 (.lst [.int ns6[0]]) l2 = some (.lst [.int ns6[0]]) := upd_same
        generalize upd H6 l2 (HO.lst [.int ns6[0]]) = H7 at s7 g7 ⊢
        refine ⟨.ref pa, rfl, 1, rfl, ?_⟩
        dsimp only [tNoPart]
        refine ⟨pa, _, rfl, SqL.of (s7 _ _ e_pa), fun ps nps => ?_⟩
        have ecut : cutV (ns6.map V.int) (some 1) none = (ns6.drop 1).map V.int := by
          rw [List.map_drop]
          unfold cutV
          rw [show HT.sIx (ns6.map V.int).length 0 (some 1) = min 1 (ns6.map V.int).length from HT.sIx_nat _ 0 1, HT.sIx_none]
          rw [show min 1 (ns6.map V.int).length = 1 by rw [List.length_map]; omega]
          rw [List.take_of_length_le (by rw [List.length_drop]; omega)]
        rw [ecut]
        have s8 : Same H7 (upd H7 ps (.lst ((ns6.drop 1).map V.int))) := same_upd nps
        have e_ps : upd H7 ps (.lst ((ns6.drop 1).map V.int)) ps = some (.lst ((ns6.drop 1).map V.int)) := upd_same
        generalize upd H7 ps (HO.lst ((ns6.drop 1).map V.int)) = H8 at s8 e_ps ⊢
        have hl8 : (ns6.drop 1).length ≤ 15 := by rw [List.length_drop]; omega
        refine ⟨ps, rfl, ⟨_, SqL.of e_ps⟩, fun D nD => ?_⟩
        refine lc_list (K := K) (a := ps) (xs := (ns6.drop 1).map V.int) (fun i H' => Same H8 H' ∧ H' D = some (.lst ((((ns6.drop 1).take i).map fun x => 2 * x).map V.int))) ⟨same_upd nD, upd_same⟩ ?_ ?_ ?_
        · rintro i H' _ ⟨sm, _⟩
          exact SqL.of (sm _ _ e_ps)
        · rintro i x H' hx ⟨sm, hD⟩
          rw [List.getElem?_map] at hx
          obtain ⟨v, hv, rfl⟩ := Option.map_eq_some_iff.mp hx
          refine ⟨rfl, _, rfl, 2, v, rfl, rfl, .inl ⟨by decide, by decide⟩, _, hD, ?_, ?_, ?_⟩
          · rw [List.length_map, List.length_map, List.length_take]
            exact small1000 (by omega)
          · intro c o hc
            rw [upd_ne (ne_of_none hc nD)]
            exact sm c o hc
          · rw [upd_same, List.take_add_one, hv, List.map_append, List.map_append]
            rfl
        · rintro H' ⟨sm, hD⟩
          rw [List.length_map, List.take_length] at hD
          refine ⟨l2, D, _, _, rfl, rfl, sm _ _ (s8 _ _ g7), hD, by rw [List.length_map, List.length_map]; show 1 + _ ≤ sizeLine; rw [sizeLine_eq]; omega, fun l9 n9 => ?_⟩
          refine ⟨l9, ns6[0] :: (ns6.drop 1).map fun x => 2 * x, _, rfl, upd_same, ?_, ?_, stay (s7.trans (s8.trans (sm.trans (same_upd n9))))⟩
          · rw [List.length_cons, List.length_map, List.length_drop]; omega
          · intro y hy
            rcases List.mem_cons.mp hy with rfl | hy
            · have := hx6 _ (List.getElem_mem h0)
              omega
            · obtain ⟨z, hz, rfl⟩ := List.mem_map.mp hy
              have := hx6 z (List.mem_of_mem_drop hz)
              omega
      · exact ⟨pa, ns6, _, rfl, e_pa, hl6, fun x hx => by have := hx6 x hx; omega, stay (Same.refl _)⟩
    · rintro σ H7 ⟨pa, ns7, y9, rfl, e_pa, hl7', hx7, x7, hB7⟩
      have hl7 : ns7.length ≤ 15 := by omega
      refine ⟨_, rfl, .ref pa, rfl, pa, rfl, ⟨_, SqL.of e_pa⟩, fun D nD => ?_⟩
      refine lc_list (K := K) (a := pa) (xs := ns7.map V.int) (fun i H' => Same H7 H' ∧ H' D = some (.lst (((ns7.take i).map fun x => scale * x).map V.int))) ⟨same_upd nD, upd_same⟩ ?_ ?_ ?_
      · rintro i H' _ ⟨sm, _⟩
        exact SqL.of (sm _ _ e_pa)
      · rintro i x H' hx ⟨sm, hD⟩
        rw [List.getElem?_map] at hx
        obtain ⟨v, hv, rfl⟩ := Option.map_eq_some_iff.mp hx
        refine ⟨rfl, _, rfl, _, rfl, scale, v, rfl, rfl, .inl ⟨by omega, by omega⟩, _, hD, ?_, ?_, ?_⟩
        · rw [List.length_map, List.length_map, List.length_take]
          exact small1000 (by omega)
        · intro c o hc
          rw [upd_ne (ne_of_none hc nD)]
          exact sm c o hc
        · rw [upd_same, List.take_add_one, hv, List.map_append, List.map_append]
          rfl
      · rintro H' ⟨sm, hD⟩
        rw [List.length_map, List.take_length] at hD
        obtain ⟨o7, z7⟩ := hB7.get
        have hB8 : Box H' b (n + 24) := hB7.at (by rw [sm _ _ z7, z7])
        have x8 : SX b H H' := x7.trans (.of_same sm)
        refine ⟨_, rfl, by show 5 ≤ sizeLine; decide, fun l2 n2 => ?_⟩
        obtain ⟨o8, z8⟩ := hB8.get
        refine ⟨b, l2, n + 24, _, rfl, hB8.new n2, by omega, upd_same, ne_of_none z8 n2, by show 1 ≤ 5; decide, by show 5 ≤ 10000000; decide, fun nt H9 hnt hB9 k9 => ?_⟩
        obtain ⟨nt, rfl, nt0, nt2⟩ : ∃ v : Int, nt = .int v ∧ 0 ≤ v ∧ v ≤ 2 := by
          simp only [List.mem_cons, List.not_mem_nil, or_false] at hnt
          rcases hnt with h | h | h | h | h <;> exact ⟨_, h, by decide, by decide⟩
        have x9 : SX b H H9 := (x8.new n2).trans (.of_eq k9)
        have nDb : D ≠ b := fun z => by
          rw [z] at hD
          obtain ⟨_, _, _, w8, _⟩ := hB8
          rw [w8] at hD
          have hh := HO.lst.inj (Option.some.inj hD)
          have hlen3 := congrArg List.length hh
          rw [z] at nD
          rw [nD] at z7
          cases z7
        have eD9 : H9 D = some (.lst ((ns7.map fun x => scale * x).map V.int)) := by rw [k9 D nDb]; exact same_upd n2 _ _ hD
        refine ⟨b, D, ns7.map fun x => scale * x, nt, n + 24 + 1, rfl, hB9, by omega, .inl eD9, nt0, by omega, by rw [List.length_map]; omega, fun p H10 ms np pm hB10 x10 ep => ?_⟩
        have hlm := pm.length_eq
        rw [List.length_append, List.length_map, List.length_replicate] at hlm
        have hmem : ∀ x ∈ ms, 0 ≤ x ∧ x ≤ 24 * (most + 16) := fun x hx => by
          rcases List.mem_append.mp (pm.mem_iff.mp hx) with h | h
          · obtain ⟨z, hz, rfl⟩ := List.mem_map.mp h
            have h7 := hx7 z hz
            have u1 : 0 ≤ scale * z := Int.mul_nonneg (by omega) (by omega)
            have u2 : scale * z ≤ 6 * z := Int.mul_le_mul_of_nonneg_right sc6 (by omega)
            omega
          · rw [List.eq_of_mem_replicate h]; omega
        have hpos : least ≤ cnt ms ∧ (cnt ms : Int) ≤ greatest := by
          have hz := cnt_zeros nt.toNat
          unfold MG.cnt at hz ⊢
          rw [(pm.filter _).length_eq, List.filter_append, List.length_append, List.filter_eq_self.mpr (fun n hn => by
            obtain ⟨z, hz, rfl⟩ := List.mem_map.mp hn
            have h7 := hx7 z hz
            exact decide_eq_true (Int.mul_pos (by omega) (by omega))), List.length_map]
          omega
        exact q p H10 ms (x9.free hB9 np) (by omega) (by omega) hmem hpos (hB10.le (by omega)) (x9.trans x10) ep
end
end K56

namespace K56
open PySem PySem.Spec PyProof.Rows L2 MG
abbrev sHolders : Stmt := topS 21
abbrev sHfn : Stmt := topS 37
abbrev sAsked : Stmt := topS 38
abbrev sBroken : Stmt := topS 40
abbrev nBroken : List Str := ["row", "other", "clauses", "clause", "is_broken"]
theorem scHolders : FnScope ["row", "place", "amount"] ["row"] (defScope sHolders) := ⟨rfl, rfl, rfl, by decide +kernel, rfl, by decide +kernel, by decide +kernel⟩
theorem scHfn : FnScope ["row", "other", "before", "behind"] ["row", "other"] (defScope sHfn) := ⟨rfl, rfl, rfl, by decide +kernel, rfl, by decide +kernel, by decide +kernel⟩
theorem scAsked : FnScope ["row", "other", "as_many_twos"] ["row", "other"] (defScope sAsked) := ⟨rfl, rfl, rfl, by decide +kernel, rfl, by decide +kernel, by decide +kernel⟩
theorem scBroken : FnScope ["row", "other", "clauses", "clause", "is_broken"] ["row", "other"] (defScope sBroken) := ⟨rfl, rfl, rfl, by decide +kernel, rfl, by decide +kernel, by decide +kernel⟩
section
variable {P : Program} {w : World} {K : PySem.W.Frag} {mg : Str → Option Value} {base : Heap}
def spHolders : Sp := fun vs H Q _ => ∃ a ns, vs = [.ref a] ∧ H a = some (.tup (ns.map V.int)) ∧ ns.length ≤ 40 ∧
  ∀ H' p, Same H H' → H' p = some (.tup ((hold ns ns.length).map V.int)) → Q (.ref p) H'
theorem ok_holders {f : Addr} {fd : FuncData} {k : Nat} (F : Fun K "holders" "holders" sHolders f fd) (mT : mg "tuple" = none) (mE : mg "enumerate" = none) :
    FnOk P w K mg base CX0 (k + 1) f fd ["row"] spHolders := by
  refine F.ok scHolders (fun vs H Q E h => ?_) (fun cdv A outer s H vs Q E hr h => ?_)
  · obtain ⟨a, ns, rfl, _⟩ := h
    rfl
  · obtain ⟨a, ns, rfl, e, hl, q⟩ := h
    refine ⟨_, pss_one (ps_ret (pe_callTy call_tuple_of (by rfl) mT (by decide +kernel) (pa_cons
      (pe_lc (own := [("place", 1), ("amount", 2)]) (g := gTup K 2 (gCons (gName 1) (gCons (gName 2) gNil))) rfl scHolders.nd (pi_enumT (by rfl) mE (pa_cons (pv 0) pa_nil))
        (blkOk_by (N := ["row", "place", "amount"]) (sc := defScope sHolders) (by decide +kernel))
        (fun _ _ _ _ _ => pg_tup rfl (pgs_cons (pg_name (i := 1) scHolders.nd rfl (.inl rfl) (.inr rfl)) (pgs_cons (pg_name (i := 2) scHolders.nd rfl (.inl rfl) (.inr rfl)) pgs_nil)))
        (fun _ _ _ _ _ => pts_one (pt_cmpR op_gt (pv 2) pe_int (nomark _)))
        (fun _ _ _ _ _ => pv 1)) pa_nil))), ?_⟩
    have hS : SqT K H a (ns.map V.int) := SqT.of e
    refine ⟨.ref a, rfl, a, ns.map V.int, rfl, hS, fun D nD => ?_⟩
    refine lc_it (walk_enumT (K := K) (a := a) (xs := ns.map V.int)) (fun i H' => Same H H' ∧ H' D = some (.lst ((hold ns i).map V.int))) ⟨same_upd nD, upd_same⟩ ?_ ?_ ?_
    · intro i H' _ h
      exact SqT.of (h.1 _ _ e)
    · rintro i x H' H'' hi ⟨sm, hD⟩ ⟨T, x1, x2, rfl, nT, rfl, e1, e2⟩
      rw [List.length_map] at hi
      have e1' : x1 = .int (i : Nat) := (Option.some.inj e1).symm
      have e2' : x2 = .int ns[i] := by
        have z : (ns.map V.int)[i]? = some x2 := e2
        rw [List.getElem?_map, List.getElem?_eq_getElem hi] at z
        exact (Option.some.inj z).symm
      subst e1' e2'
      have smT : Same H' (upd H' T (.tup [.int (i : Nat), .int ns[i]])) := same_upd nT
      have hg : ns.getD i 0 = ns[i] := by rw [List.getD_eq_getElem?_getD, List.getElem?_eq_getElem hi]; rfl
      refine ⟨T, [.int (i : Nat), .int ns[i]], rfl, .inl (.inl upd_same), rfl, .int (i : Nat), [.int ns[i]], rfl, .int ns[i], [], rfl, rfl, rfl, _, rfl, ns[i], 0, rfl, rfl, _, rfl, ?_⟩
      refine ite2 (fun hp => ?_) (fun hp => ?_)
      · have hp' : 0 < ns[i] := of_decide_eq_true hp
        refine ⟨.int (i : Nat), rfl, _, smT _ _ hD, ?_, ?_, ?_⟩
        · rw [List.length_map]
          exact small1000 (Nat.le_trans (hold_len ns i) (by omega))
        · intro c o hc
          rw [upd_ne (ne_of_none hc nD)]
          exact smT _ _ (sm c o hc)
        · rw [upd_same, hold_succ, hg, if_pos hp', List.map_append]
          rfl
      · have hp' : ¬ 0 < ns[i] := fun z => hp (decide_eq_true z)
        refine ⟨sm.trans smT, ?_⟩
        rw [hold_succ, hg, if_neg hp', List.append_nil]
        exact smT _ _ hD
    · rintro H' ⟨sm, hD⟩
      rw [List.length_map] at hD
      refine ⟨D, _, rfl, .inl ⟨.inl (.inl hD), fun p np => ?_⟩⟩
      exact q _ p (sm.trans (same_upd np)) upd_same

def hfnL (r o : List Int) : List Bool := (r.zip o).map fun p => decide (p.1 = 0) && decide (p.2 > 0)
def spHfn : Sp := fun vs H Q _ => ∃ a b r o, vs = [.ref a, .ref b] ∧ H a = some (.tup (List.map V.int r)) ∧ H b = some (.tup (List.map V.int o)) ∧ r.length = o.length ∧ r.length ≤ 40 ∧ ∀ H', Same H H' → Q (.bl (hfn r o)) H'
theorem ok_hfn {f : Addr} {fd : FuncData} {k : Nat} (F : Fun K "has_from_nothing" "has_from_nothing" sHfn f fd) (mA : mg "any" = none) (mZ : mg "zip" = none) :
    FnOk P w K mg base CX0 (k + 1) f fd ["row", "other"] spHfn := by
  refine F.ok scHfn (fun vs H Q E h => ?_) (fun cdv A outer s H vs Q E hr h => ?_)
  · obtain ⟨a, b, r, o, rfl, _⟩ := h
    rfl
  · obtain ⟨a, b, r, o, rfl, ea, eb, hl, hn, q⟩ := h
    refine ⟨_, pss_one (ps_ret (pe_callB (cr_any rfl) (by rfl) mA (by decide +kernel) (pa_cons
      (pe_lc (own := [("before", 2), ("behind", 3)]) (g := gTup K 2 (gCons (gName 2) (gCons (gName 3) gNil))) (tt := tYes) rfl scHfn.nd (RZ.pi_zipA (by rfl) mZ (pa_cons (pv 0) (pa_cons (pv 1) pa_nil)))
        (blkOk_by (N := ["row", "other", "before", "behind"]) (sc := defScope sHfn) (by decide +kernel))
        (fun _ _ _ _ _ => pg_tup rfl (pgs_cons (pg_name (i := 2) scHfn.nd rfl (.inl rfl) (.inr rfl)) (pgs_cons (pg_name (i := 3) scHfn.nd rfl (.inl rfl) (.inr rfl)) pgs_nil)))
        (fun _ _ _ _ _ => pts_nil)
        (fun _ _ _ _ _ => pe_and (pe_cmpR op_eq (pv 2) pe_int (nomark _)) (pe_one (pe_cmpR op_gt (pv 3) pe_int (nomark _))))) pa_nil))), ?_⟩
    refine ⟨_, rfl, _, rfl, a, b, _, _, rfl, .inr ⟨SqT.of ea, SqT.of eb, fun D nD => ?_⟩⟩
    refine lc_it (walk_zipT (K := K) (a := a) (b := b) (xs := r.map V.int) (ys := o.map V.int) (n := r.length) (by rw [List.length_map, List.length_map]; omega)) (fun i H' => Same H H' ∧ H' D = some (.lst (((hfnL r o).take i).map V.bl))) ⟨same_upd nD, upd_same⟩ ?_ ?_ ?_
    · intro i H' _ h
      exact ⟨SqT.of (h.1 _ _ ea), SqT.of (h.1 _ _ eb)⟩
    · rintro i x H' H'' hi ⟨sm, hD⟩ ⟨T, x1, x2, rfl, nT, rfl, e1, e2⟩
      have hi2 : i < o.length := by omega
      have e1' : x1 = .int r[i] := by
        have z : (r.map V.int)[i]? = some x1 := e1
        rw [List.getElem?_map, List.getElem?_eq_getElem hi] at z
        exact (Option.some.inj z).symm
      have e2' : x2 = .int o[i] := by
        have z : (o.map V.int)[i]? = some x2 := e2
        rw [List.getElem?_map, List.getElem?_eq_getElem hi2] at z
        exact (Option.some.inj z).symm
      subst e1' e2'
      have smT : Same H' (upd H' T (.tup [.int r[i], .int o[i]])) := same_upd nT
      have hz : (hfnL r o)[i]? = some (decide (r[i] = 0) && decide (o[i] > 0)) := by
        unfold hfnL
        rw [List.getElem?_map, (List.getElem?_zip_eq_some (z := (r[i], o[i]))).mpr ⟨List.getElem?_eq_getElem hi, List.getElem?_eq_getElem hi2⟩]
        rfl
      have fin : ∀ y, y = (decide (r[i] = 0) && decide (o[i] > 0)) → ∃ acc, upd H' T (.tup [.int r[i], .int o[i]]) D = some (.lst acc) ∧ acc.length < sizeLine ∧ Same H (upd (upd H' T (.tup [.int r[i], .int o[i]])) D (.lst (acc ++ [V.bl y]))) ∧ upd (upd H' T (.tup [.int r[i], .int o[i]])) D (.lst (acc ++ [V.bl y])) D = some (.lst (((hfnL r o).take (i + 1)).map V.bl)) := fun y hy => by
        refine ⟨_, smT _ _ hD, ?_, ?_, ?_⟩
        · rw [List.length_map, List.length_take]
          exact small1000 (by omega)
        · intro c o hc
          rw [upd_ne (ne_of_none hc nD)]
          exact smT _ _ (sm c o hc)
        · rw [upd_same, List.take_add_one, hz, List.map_append, hy]
          rfl
      refine ⟨T, [.int r[i], .int o[i]], rfl, .inl (.inl upd_same), rfl, .int r[i], [.int o[i]], rfl, .int o[i], [], rfl, rfl, rfl, ?_⟩
      refine ⟨_, rfl, rfl, _, rfl, ?_⟩
      have ez : decide (V.int r[i] = V.int 0) = decide (r[i] = 0) := by
        by_cases z : r[i] = 0
        · rw [z]; rfl
        · rw [decide_eq_false z, decide_eq_false (fun y => z (V.int.inj y))]
      rw [ez]
      refine ite2 (fun hp => ?_) (fun hp => ?_)
      · refine ⟨_, rfl, _, 0, rfl, rfl, ?_⟩
        exact fin _ (by rw [hp]; rfl)
      · have hp' : decide (r[i] = 0) = false := by cases h : decide (r[i] = 0) <;> first | rfl | exact absurd h hp
        exact fin _ (by rw [hp']; rfl)
    · rintro H' ⟨sm, hD⟩
      have hlen : (hfnL r o).length = r.length := by
        unfold hfnL
        rw [List.length_map, List.length_zip]; omega
      rw [← hlen, List.take_length] at hD
      refine ⟨D, hfnL r o, rfl, SqL.of hD, ?_⟩
      have e : (hfnL r o).any id = hfn r o := by
        unfold hfnL hfn
        rw [List.any_map]
        rfl
      rw [e]
      exact q H' sm
end
end K56

namespace K56
open PySem PySem.Spec PyProof.Rows L2 MG
theorem decV (x y : Int) : decide (V.int x = V.int y) = decide (x = y) := by
  by_cases h : x = y
  · rw [h]; simp
  · rw [decide_eq_false h, decide_eq_false (fun z => h (V.int.inj z))]
theorem decN (a b : Nat) : decide ((a : Int) = (b : Int)) = decide (a = b) := by
  by_cases h : a = b
  · rw [h]; simp
  · rw [decide_eq_false h, decide_eq_false (fun z => h (by omega))]
theorem decL (a b : Nat) : decide ((a : Int) < (b : Int)) = decide (a < b) := by
  by_cases h : a < b
  · rw [decide_eq_true h, decide_eq_true (show (a : Int) < b by omega)]
  · rw [decide_eq_false h, decide_eq_false (show ¬ (a : Int) < b by omega)]
theorem notD (p : Prop) [Decidable p] : (!decide p) = decide (¬ p) := by
  by_cases h : p
  · rw [decide_eq_true h, decide_eq_false (fun z => z h)]; rfl
  · rw [decide_eq_false h, decide_eq_true h]; rfl
section
variable {P : Program} {w : World} {K : PySem.W.Frag} {mg : Str → Option Value} {base : Heap}
def spAsked : Sp := fun vs H Q _ => ∃ a b r o, vs = [.ref a, .ref b] ∧ Row H a r ∧ Row H b o ∧ r.length = o.length ∧ ∀ H' p ts, Same H H' → H' p = some (.tup (ts.map V.ref)) → PairsAt H' ts (asked r o) → Q (.ref p) H'
theorem ok_asked {f fT fN fM fO fH : Addr} {fd fdT fdN fdM fdO fdH : FuncData} {k : Nat} (F : Fun K "asked_of_any" "asked_of_any" sAsked f fd)
    (FT : Fun K "twos" "twos" sTwos fT fdT) (bT : Binds K fdT ["row"] []) (gT : mg "twos" = some (.ref fT)) (GT : FnOk P w K mg base CX0 (k + 3) fT fdT ["row"] spTwos)
    (FN : Fun K "has_from_nothing" "has_from_nothing" sHfn fN fdN) (bN : Binds K fdN ["row", "other"] []) (gN : mg "has_from_nothing" = some (.ref fN)) (GN : FnOk P w K mg base CX0 (k + 1) fN fdN ["row", "other"] spHfn)
    (FM : Fun K "measure" "measure" sMeasure fM fdM) (bM : Binds K fdM ["row"] []) (gM : mg "measure" = some (.ref fM)) (GM : FnOk P w K mg base CX0 (k + 3) fM fdM ["row"] spMeasure)
    (FO : Fun K "odd_ones" "odd_ones" sOddOnes fO fdO) (bO : Binds K fdO ["row"] []) (gO : mg "odd_ones" = some (.ref fO)) (GO : FnOk P w K mg base CX0 (k + 4) fO fdO ["row"] spOddOnes)
    (FH : Fun K "holders" "holders" sHolders fH fdH) (bH : Binds K fdH ["row"] []) (gH : mg "holders" = some (.ref fH)) (GH : FnOk P w K mg base CX0 (k + 1) fH fdH ["row"] spHolders)
    (mS : mg "sum" = none) (ml : mg "len" = none) : FnOk P w K mg base CX0 (k + 5) f fd ["row", "other"] spAsked := by
  refine F.ok scAsked (fun vs H Q E h => ?_) (fun cdv A outer s H vs Q E hr h => ?_)
  · obtain ⟨a, b, r, o, rfl, _⟩ := h
    rfl
  · obtain ⟨a, b, r, o, rfl, ra, rb, hl, q⟩ := h
    have hr1 := hr.mono (show k + 1 ≤ k + 4 by omega)
    have hr3 := hr.mono (show k + 3 ≤ k + 4 by omega)
    refine ⟨_, pss_cons (ps_set (i := 2) scAsked.nd rfl (.inl rfl) (pe_cmpR op_eq (pe_call GT hr3 (by rfl) gT FT.kp bT .nil pass0 (pa_cons (pv 1) pa_nil)) (pe_call GT hr3 (by rfl) gT FT.kp bT .nil pass0 (pa_cons (pv 0) pa_nil)) (nomark _)))
      (pss_one (ps_ret (pe_tup (pa_cons
        (pe_tup (pa_cons pe_str (pa_cons (pe_cmpR op_ne (pe_callB (sumT rfl) (by rfl) mS (by decide +kernel) (pa_cons (pv 1) pa_nil)) (pe_callB (sumT rfl) (by rfl) mS (by decide +kernel) (pa_cons (pv 0) pa_nil)) (nomark _)) pa_nil))) (pa_cons
        (pe_tup (pa_cons pe_str (pa_cons (pe_call GN hr1 (by rfl) gN FN.kp bN .nil pass0 (pa_cons (pv 0) (pa_cons (pv 1) pa_nil))) pa_nil))) (pa_cons
        (pe_tup (pa_cons pe_str (pa_cons (pe_cmpR op_ne (pe_call GM hr3 (by rfl) gM FM.kp bM .nil pass0 (pa_cons (pv 1) pa_nil)) (pe_call GM hr3 (by rfl) gM FM.kp bM .nil pass0 (pa_cons (pv 0) pa_nil)) (nomark _)) pa_nil))) (pa_cons
        (pe_tup (pa_cons pe_str (pa_cons (pe_cmpR op_lt (pe_call GT hr3 (by rfl) gT FT.kp bT .nil pass0 (pa_cons (pv 1) pa_nil)) (pe_call GT hr3 (by rfl) gT FT.kp bT .nil pass0 (pa_cons (pv 0) pa_nil)) (nomark _)) pa_nil))) (pa_cons
        (pe_tup (pa_cons pe_str (pa_cons (pe_and (pv 2) (pe_one (pe_cmpR op_gt (pe_call GO hr (by rfl) gO FO.kp bO .nil pass0 (pa_cons (pv 1) pa_nil)) (pe_call GO hr (by rfl) gO FO.kp bO .nil pass0 (pa_cons (pv 0) pa_nil)) (nomark _)))) pa_nil))) (pa_cons
        (pe_tup (pa_cons pe_str (pa_cons (pe_and (pv 2) (pe_one (pe_cmpR op_eq (pe_call GO hr (by rfl) gO FO.kp bO .nil pass0 (pa_cons (pv 1) pa_nil))
          (pe_callB call_len_seq (by rfl) ml PySem.boot_len (pa_cons (pe_call GH hr1 (by rfl) gH FH.kp bH .nil pass0 (pa_cons (pv 1) pa_nil)) pa_nil)) (nomark _)))) pa_nil))) pa_nil))))))))), ?_⟩
    refine ⟨_, rfl, b, o, rfl, rb, _, rfl, a, r, rfl, ra, rfl, ?_⟩
    rw [decV, decN]
    refine ⟨_, rfl, b, o, rfl, SqT.of rb.1, _, rfl, a, r, rfl, SqT.of ra.1, rfl, by show 2 ≤ sizeLine; decide, fun t1 n1 => ?_⟩
    rw [decV, notD]
    have s1 : Same H (upd H t1 (.tup [.str "sum", .bl (decide (¬ o.sum = r.sum))])) := same_upd n1
    have e1 : upd H t1 (.tup [.str "sum", .bl (decide (¬ o.sum = r.sum))]) t1 = some (.tup [.str "sum", .bl (decide (¬ o.sum = r.sum))]) := upd_same
    generalize upd H t1 (HO.tup [.str "sum", .bl (decide (¬ o.sum = r.sum))]) = H1 at s1 e1 ⊢
    have ra1 := ra.same s1
    have rb1 := rb.same s1
    refine ⟨_, rfl, _, rfl, a, b, r, o, rfl, ra1.1, rb1.1, hl, ra.2.2.1, fun G2 sG2 => ⟨by show 2 ≤ sizeLine; decide, fun t2 n2 => ?_⟩⟩
    have s2 : Same H1 (upd G2 t2 (.tup [.str "nothing", .bl (hfn r o)])) := sG2.trans (same_upd n2)
    have e2 : upd G2 t2 (.tup [.str "nothing", .bl (hfn r o)]) t2 = some (.tup [.str "nothing", .bl (hfn r o)]) := upd_same
    generalize upd G2 t2 (HO.tup [.str "nothing", .bl (hfn r o)]) = H2 at s2 e2 ⊢
    have ra2 := ra1.same s2
    have rb2 := rb1.same s2
    refine ⟨_, rfl, b, o, rfl, rb2, _, rfl, a, r, rfl, ra2, rfl, by show 2 ≤ sizeLine; decide, fun t3 n3 => ?_⟩
    rw [decV, notD]
    have s3 : Same H2 (upd H2 t3 (.tup [.str "measure", .bl (decide (¬ ms o = ms r))])) := same_upd n3
    have e3 : upd H2 t3 (.tup [.str "measure", .bl (decide (¬ ms o = ms r))]) t3 = some (.tup [.str "measure", .bl (decide (¬ ms o = ms r))]) := upd_same
    show tCons _ _ _ (upd H2 t3 (.tup [.str "measure", .bl (decide (¬ ms o = ms r))])) _
    generalize upd H2 t3 (HO.tup [.str "measure", .bl (decide (¬ ms o = ms r))]) = H3 at s3 e3 ⊢
    have ra3 := ra2.same s3
    have rb3 := rb2.same s3
    refine ⟨_, rfl, b, o, rfl, rb3, _, rfl, a, r, rfl, ra3, _, _, rfl, rfl, by show 2 ≤ sizeLine; decide, fun t4 n4 => ?_⟩
    dsimp only
    rw [decL]
    have s4 : Same H3 (upd H3 t4 (.tup [.str "twos", .bl (decide (v2 (gl o) < v2 (gl r)))])) := same_upd n4
    have e4 : upd H3 t4 (.tup [.str "twos", .bl (decide (v2 (gl o) < v2 (gl r)))]) t4 = some (.tup [.str "twos", .bl (decide (v2 (gl o) < v2 (gl r)))]) := upd_same
    generalize upd H3 t4 (HO.tup [.str "twos", .bl (decide (v2 (gl o) < v2 (gl r)))]) = H4 at s4 e4 ⊢
    have ra4 := ra3.same s4
    have rb4 := rb3.same s4
    have S4 := s1.trans (s2.trans (s3.trans s4))
    have fin : ∀ (G : Hp) (t5 t6 p : Addr), Same H4 G → G t5 = some (.tup [.str "odd ones", .bl (decide (v2 (gl o) = v2 (gl r)) && decide (od r < od o))]) →
        G t6 = some (.tup [.str "doubled", .bl (decide (v2 (gl o) = v2 (gl r)) && decide (od o = (hold o o.length).length))]) → G p = some (.tup ([t1, t2, t3, t4, t5, t6].map V.ref)) → Q (.ref p) G := by
      intro G t5 t6 p sG h5 h6 hp
      refine q G p [t1, t2, t3, t4, t5, t6] (S4.trans sG) hp ?_
      exact .cons (sG _ _ (s4 _ _ (s3 _ _ (s2 _ _ e1)))) (.cons (sG _ _ (s4 _ _ (s3 _ _ e2))) (.cons (sG _ _ (s4 _ _ e3)) (.cons (sG _ _ e4) (.cons h5 (.cons h6 .nil)))))
    cases hA : decide (v2 (gl o) = v2 (gl r)) with
    | false =>
      rw [hA] at fin
      refine ⟨_, rfl, _, rfl, iteF ⟨by show 2 ≤ sizeLine; decide, fun t5 n5 => ?_⟩⟩
      refine ⟨_, rfl, _, rfl, iteF ⟨by show 2 ≤ sizeLine; decide, fun t6 n6 => ?_⟩⟩
      refine ⟨by show 6 ≤ sizeLine; decide, fun p np => ?_⟩
      exact fin _ t5 t6 p ((same_upd n5).trans ((same_upd n6).trans (same_upd np))) (same_upd np _ _ (same_upd n6 _ _ upd_same)) (same_upd np _ _ upd_same) upd_same
    | true =>
      rw [hA] at fin
      refine ⟨_, rfl, _, rfl, iteT ⟨_, rfl, b, o, rfl, rb4, fun G5 z5 => ⟨_, rfl, a, r, rfl, ra4.same z5, fun G6 z6 => ?_⟩⟩⟩
      refine ⟨_, _, rfl, rfl, by show 2 ≤ sizeLine; decide, fun t5 n5 => ?_⟩
      have e5' : decide (((fewT (v2 (gl r)) r).length : Int) < ((fewT (v2 (gl o)) o).length : Int)) = decide (od r < od o) := decL _ _
      dsimp only
      rw [e5']
      have s5 : Same H4 (upd G6 t5 (.tup [.str "odd ones", .bl (decide (od r < od o))])) := z5.trans (z6.trans (same_upd n5))
      have e5 : upd G6 t5 (.tup [.str "odd ones", .bl (decide (od r < od o))]) t5 = some (.tup [.str "odd ones", .bl (decide (od r < od o))]) := upd_same
      generalize upd G6 t5 (HO.tup [.str "odd ones", .bl (decide (od r < od o))]) = H5 at s5 e5 ⊢
      have rb5 := rb4.same s5
      refine ⟨_, rfl, _, rfl, iteT ⟨_, rfl, b, o, rfl, rb5, fun G7 z7 => ⟨_, rfl, b, o, rfl, (rb5.same z7).1, rb5.2.2.1, fun G8 ph z8 e8 => ?_⟩⟩⟩
      refine ⟨ph, _, rfl, .inr (SqT.of e8), rfl, by show 2 ≤ sizeLine; decide, fun t6 n6 => ?_⟩
      rw [decV, List.length_map, decN]
      refine ⟨by show 6 ≤ sizeLine; decide, fun p np => ?_⟩
      refine fin _ t5 t6 p (s5.trans (z7.trans (z8.trans ((same_upd n6).trans (same_upd np))))) (same_upd np _ _ (same_upd n6 _ _ (z8 _ _ (z7 _ _ e5)))) (same_upd np _ _ upd_same) upd_same
end
end K56

namespace K56
open PySem PySem.Spec PyProof.Rows L2 MG
abbrev sTog : Stmt := topS 34
abbrev nTog : List Str := ["row", "i", "j", "most", "together"]
theorem scTog : FnScope ["row", "i", "j", "most", "together"] ["row", "i", "j", "most"] (defScope sTog) := ⟨rfl, rfl, rfl, by decide +kernel, rfl, by decide +kernel, by decide +kernel⟩
abbrev sUntil : Stmt := topS 35
abbrev nUntil : List Str := ["row", "i", "j", "amount", "together", "left", "k"]
theorem scUntil : FnScope ["row", "i", "j", "amount", "together", "left", "k"] ["row", "i", "j", "amount"] (defScope sUntil) := ⟨rfl, rfl, rfl, by decide +kernel, rfl, by decide +kernel, by decide +kernel⟩
abbrev sTwo2 : Stmt := topS 39
abbrev nTwo2 : List Str := ["row", "other", "i", "j", "many"]
theorem scTwo2 : FnScope ["row", "other", "i", "j", "many"] ["row", "other"] (defScope sTwo2) := ⟨rfl, rfl, rfl, by decide +kernel, rfl, by decide +kernel, by decide +kernel⟩
abbrev sComes : Stmt := topS 41
theorem scComes : FnScope ["row", "other"] ["row", "other"] (defScope sComes) := ⟨rfl, rfl, rfl, by decide +kernel, rfl, by decide +kernel, by decide +kernel⟩
section
variable {P : Program} {w : World} {K : PySem.W.Frag} {mg : Str → Option Value} {base : Heap}
def spTog : Sp := fun vs H Q _ => ∃ (a : Addr) (ns : List Int) (i j p q : Nat) (most : Int), vs = [.ref a, .int i, .int j, .int most] ∧ H a = some (.tup (ns.map V.int)) ∧ Two ns i j p q ∧ ((p + q : Nat) : Int) ≤ most ∧ Q (.int (p + q : Nat)) H
theorem ok_tog {f : Addr} {fd : FuncData} {k : Nat} (F : Fun K "together_at_most" "together_at_most" sTog f fd) : FnOk P w K mg base CX0 (k + 1) f fd ["row", "i", "j", "most"] spTog := by
  refine F.ok scTog (fun vs H Q E h => ?_) (fun cdv A outer s H vs Q E hr h => ?_)
  · obtain ⟨a, ns, i, j, p, q, most, rfl, _⟩ := h
    rfl
  · obtain ⟨a, ns, i, j, p, q, most, rfl, ea, T, hm, want⟩ := h
    refine ⟨_, pss_cons (ps_set (i := 4) scTog.nd rfl (.inl rfl) (pe_op op_add (pe_ix ix_tup (pv 0) (pv 1) (fun _ _ => rfl)) (pe_ix ix_tup (pv 0) (pv 2) (fun _ _ => rfl))))
      (pss_cons (ps_if (pt_cmpR op_gt (pv 4) (pv 3) (nomark _)) pss_never pss_nil)
      (pss_one (ps_ret (pv 4)))), ?_⟩
    have gi : (ns.map V.int)[i]? = some (.int (p : Int)) := by rw [MG.getD_at T.hi, T.ei]
    have gj : (ns.map V.int)[j]? = some (.int (q : Int)) := by rw [MG.getD_at T.hj, T.ej]
    have hS : SqT K H a (ns.map V.int) := SqT.of ea
    refine ⟨.ref a, rfl, _, rfl, a, _, (i : Int), .int (p : Int), rfl, rfl, hS, atI_nat gi, .ref a, rfl, _, rfl, a, _, (j : Int), .int (q : Int), rfl, rfl, hS, atI_nat gj, (p : Int), (q : Int), rfl, rfl, ?_⟩
    refine ⟨_, rfl, _, rfl, (p : Int) + q, most, rfl, rfl, _, rfl, ?_⟩
    rw [decide_eq_false (by omega)]
    refine iteF ⟨_, rfl, ?_⟩
    rw [Int.natCast_add] at want
    exact want
def spUntil : Sp := fun vs H Q _ => ∃ (a : Addr) (ns : List Int) (i j p q am : Nat), vs = [.ref a, .int i, .int j, .int am] ∧ H a = some (.tup (ns.map V.int)) ∧ Two ns i j p q ∧ p + q ≤ 100000 ∧ Q (optV (du (p + q) am (p + q) p 0)) H
theorem ok_until {f fG : Addr} {fd fdG : FuncData} {k : Nat} {tMost : Tok} (F : Fun K "deeds_until" "deeds_until" sUntil f fd) (FG : Fun K "together_at_most" "together_at_most" sTog fG fdG) (bG : Binds K fdG ["row", "i", "j", "most"] []) (gG : mg "together_at_most" = some (.ref fG))
    (gMost : mg "MOST_IN_WALK" = some (.int 100000 tMost)) (m_range : mg "range" = none) : FnOk P w K mg base CX0 (k + 2) f fd ["row", "i", "j", "amount"] spUntil := by
  have GG : FnOk P w K mg base CX0 (k + 1) fG fdG ["row", "i", "j", "most"] spTog := ok_tog FG
  refine F.ok scUntil (fun vs H Q E h => ?_) (fun cdv A outer s H vs Q E hr h => ?_)
  · obtain ⟨a, ns, i, j, p, q, am, rfl, _⟩ := h
    rfl
  · obtain ⟨a, ns, i, j, p, q, am, rfl, ea, T, hs, want⟩ := h
    have hr1 := hr
    refine ⟨_, pss_cons (ps_set (i := 4) scUntil.nd rfl (.inl rfl) (pe_call GG hr1 (by rfl) gG FG.kp bG .nil pass0 (pa_cons (pv 0) (pa_cons (pv 1) (pa_cons (pv 2) (pa_cons (pe_glob (v := .int 100000) (by rfl) gMost ⟨_, rfl⟩) pa_nil))))))
      (pss_cons (ps_set (i := 5) scUntil.nd rfl (.inl rfl) (pe_ix ix_tup (pv 0) (pv 1) (fun _ _ => rfl)))
      (pss_cons (ps_for PassesOwn.never rfl (pi_range1 (by rfl) m_range (pa_cons (pv 4) pa_nil)) (pg_name (i := 6) scUntil.nd rfl (.inl rfl)) (pss_cons (ps_if (pt_cmpR op_eq (pe_op op_sub (pv 4) (pv 5)) (pv 3) (nomark _)) (pss_one (ps_ret (pv 6))) pss_nil)
      (pss_cons (ps_if (pt_cmpR op_eq (pv 5) pe_int (nomark _)) (pss_one (ps_ret pe_non)) pss_nil)
      (pss_one (ps_set (i := 5) scUntil.nd rfl (.inl rfl) (pe_op op_mod (pe_op op_mul pe_int (pv 5)) (pv 4)))))))
      (pss_one (ps_ret pe_non)))), ?_⟩
    have gi : (ns.map V.int)[i]? = some (.int (p : Int)) := by rw [MG.getD_at T.hi, T.ei]
    have p0 := T.p0
    have q0 := T.q0
    refine ⟨_, rfl, _, rfl, _, rfl, a, ns, i, j, p, q, 100000, rfl, ea, T, by omega, ?_⟩
    refine ⟨_, rfl, _, rfl, a, _, (i : Int), .int (p : Int), rfl, rfl, SqT.of ea, atI_nat gi, ?_⟩
    refine ⟨_, rfl, ((p + q : Nat) : Int), rfl, by omega, by omega, ?_⟩
    refine for_range (lo := 0) (n := ((p + q : Nat) : Int).toNat) (fun m σ G => ∃ (x : Nat) (y6 : Option V), σ = [some (.ref a), some (.int i), some (.int j), some (.int am), some (.int (p + q : Nat)), some (.int x), y6] ∧ G = H ∧ x < p + q ∧ du (p + q) am (p + q - m) x m = du (p + q) am (p + q) p 0) ?_ ?_ ?_
    · exact ⟨p, _, rfl, rfl, by omega, rfl⟩
    · rintro m σ G hm ⟨x, y6, rfl, rfl, hx, hd⟩
      rw [Int.toNat_natCast] at hm
      obtain ⟨f', hf'⟩ : ∃ f', p + q - m = f' + 1 := ⟨p + q - m - 1, by omega⟩
      rw [hf', du] at hd
      refine ⟨_, rfl, _, rfl, ((p + q : Nat) : Int), (x : Int), rfl, rfl, _, rfl, rfl, _, rfl, ?_⟩
      rw [decI]
      by_cases h1 : p + q - x = am
      · rw [if_pos h1] at hd
        rw [decide_eq_true (show ((p + q : Nat) : Int) - (x : Int) = (am : Int) by omega)]
        rw [← hd] at want
        refine iteT ⟨_, rfl, ?_⟩
        rw [Int.zero_add]
        exact want
      · rw [if_neg h1] at hd
        rw [decide_eq_false (show ¬ ((p + q : Nat) : Int) - (x : Int) = (am : Int) by omega)]
        refine iteF ⟨_, rfl, rfl, _, rfl, ?_⟩
        rw [decI]
        by_cases h2 : x = 0
        · rw [if_pos h2] at hd
          rw [decide_eq_true (show (x : Int) = 0 by omega)]
          rw [← hd] at want
          exact iteT want
        · rw [if_neg h2] at hd
          rw [decide_eq_false (show ¬ (x : Int) = 0 by omega)]
          refine iteF ⟨_, rfl, 2, (x : Int), rfl, rfl, .inl ⟨by decide, by decide⟩, _, rfl, _, ((p + q : Nat) : Int), rfl, rfl, (by show (0 : Int) < ((p + q : Nat) : Int); omega), ?_⟩
          refine ⟨2 * x % (p + q), some (.int (0 + (m : Int))), ?_, rfl, Nat.mod_lt _ (by omega), ?_⟩
          · rw [Int.natCast_emod, Int.natCast_mul]; rfl
          · rw [← hd]
            congr 1
            omega
    · rintro σ G ⟨x, y6, rfl, rfl, hx, hd⟩
      rw [Int.toNat_natCast, Nat.sub_self] at hd
      rw [← hd] at want
      exact want
def spTwo2 : Sp := fun vs H Q _ => ∃ a b r o, vs = [.ref a, .ref b] ∧ Row H a r ∧ Row H b o ∧ r.length = o.length ∧ (hold r r.length).length = 2 ∧ r.sum ≤ 100000 ∧ (pairB r o = false → ∀ H', Same H H' → Q .non H') ∧ (pairB r o = true → ∀ H' p, Same H H' → (∃ i j d : Nat, H' p = some (.tup [.int (i : Int), .int (j : Int), .int (d : Int)])) → Q (.ref p) H')
theorem ok_two2 {f fH fU : Addr} {fd fdH fdU : FuncData} {k : Nat} (F : Fun K "run_of_two" "run_of_two" sTwo2 f fd) (FH : Fun K "holders" "holders" sHolders fH fdH) (bH : Binds K fdH ["row"] []) (gH : mg "holders" = some (.ref fH)) (GH : FnOk P w K mg base CX0 (k + 1) fH fdH ["row"] spHolders)
    (FU : Fun K "deeds_until" "deeds_until" sUntil fU fdU) (bU : Binds K fdU ["row", "i", "j", "amount"] []) (gU : mg "deeds_until" = some (.ref fU)) (GU : FnOk P w K mg base CX0 (k + 2) fU fdU ["row", "i", "j", "amount"] spUntil) : FnOk P w K mg base CX0 (k + 3) f fd ["row", "other"] spTwo2 := by
  refine F.ok scTwo2 (fun vs H Q E h => ?_) (fun cdv A outer s H vs Q E hr h => ?_)
  · obtain ⟨a, b, r, o, rfl, _⟩ := h
    rfl
  · obtain ⟨a, b, r, o, rfl, ra, rb, hl, h2, hsum, want⟩ := h
    have hr2 := hr
    have hr1 := hr.mono (show k + 1 ≤ k + 2 by omega)
    refine ⟨_, pss_cons (ps_asg (pe_call GH hr1 (by rfl) gH FH.kp bH .nil pass0 (pa_cons (pv 0) pa_nil)) (pg_tup rfl (pgs_cons (pg_name (i := 2) scTwo2.nd rfl (.inl rfl)) (pgs_cons (pg_name (i := 3) scTwo2.nd rfl (.inl rfl)) pgs_nil))))
      (pss_mid (ps_if (pt_cmpR op_eq (pe_ix ix_tup (pv 1) (pv 3) (fun _ _ => rfl)) pe_int (nomark _)) (pss_one (ps_par (i := 2) (j := 3) rfl scTwo2.nd rfl rfl (by decide) rfl rfl (pa_cons (pv 3) (pa_cons (pv 2) pa_nil)) (by rfl))) pss_nil)
      (pss_cons (ps_set (i := 4) scTwo2.nd rfl (.inl rfl) (pe_call GU hr2 (by rfl) gU FU.kp bU .nil pass0 (pa_cons (pv 0) (pa_cons (pv 2) (pa_cons (pv 3) (pa_cons (pe_ix ix_tup (pv 1) (pv 3) (fun _ _ => rfl)) pa_nil))))))
      (pss_one (ps_ret (pe_ifExp (pt_cmpR op_isN (pv 4) pe_non (nomark _)) pe_non (pe_tup (pa_cons (pv 2) (pa_cons (pv 3) (pa_cons (pv 4) pa_nil))))))))), ?_⟩
    refine ⟨_, rfl, a, r, rfl, ra.1, ra.2.2.1, fun H1 ph s1 e1 => ?_⟩
    obtain ⟨i', j', hij⟩ : ∃ i' j', hold r r.length = [i', j'] := by
      match h : hold r r.length, h2 with
      | [x, y], _ => exact ⟨x, y, rfl⟩
    obtain ⟨i, j, rfl, rfl, hi, hj, hne, pi, pj⟩ := hold_two hij
    rw [hij] at e1
    refine ⟨ph, _, rfl, SqT.of e1, rfl, .int (i : Int), [.int (j : Int)], rfl, .int (j : Int), [], rfl, rfl, ?_⟩
    have bi := ra.2.1 _ (MG.getD_mem hi)
    have bj := ra.2.1 _ (MG.getD_mem hj)
    have hio : i < o.length := by omega
    have hjo : j < o.length := by omega
    have oi0 := rb.2.1 _ (MG.getD_mem hio)
    have oj0 := rb.2.1 _ (MG.getD_mem hjo)
    have tot := two_le_sum (fun n hn => (ra.2.1 n hn).1) hi hj hne
    obtain ⟨p, ep⟩ : ∃ p : Nat, r.getD i 0 = p := ⟨(r.getD i 0).toNat, by omega⟩
    obtain ⟨q, eq⟩ : ∃ p : Nat, r.getD j 0 = p := ⟨(r.getD j 0).toNat, by omega⟩
    obtain ⟨oi, eoi⟩ : ∃ p : Nat, o.getD i 0 = p := ⟨(o.getD i 0).toNat, by omega⟩
    obtain ⟨oj, eoj⟩ : ∃ p : Nat, o.getD j 0 = p := ⟨(o.getD j 0).toNat, by omega⟩
    have T : Two r i j p q := ⟨hi, hj, hne, ep, eq, by omega, by omega⟩
    have T' : Two r j i q p := ⟨hj, hi, hne.symm, eq, ep, by omega, by omega⟩
    have goi : (o.map V.int)[i]? = some (.int (oi : Int)) := by rw [MG.getD_at hio, eoi]
    have goj : (o.map V.int)[j]? = some (.int (oj : Int)) := by rw [MG.getD_at hjo, eoj]
    have epb : pairB r o = cb2 p q oi oj := by
      unfold pairB
      rw [hij]
      show cb2 (r.getD i 0).toNat (r.getD j 0).toNat (o.getD i 0).toNat (o.getD j 0).toNat = _
      rw [ep, eq, eoi, eoj]
      rfl
    rw [epb] at want
    have hsm : p + q ≤ 100000 := by omega
    have eo1 := s1 _ _ rb.1
    have ea1 := s1 _ _ ra.1
    refine ⟨fun σ' G => G = H1 ∧ ∃ i2 j2 p2 q2 am : Nat, σ' = [some (.ref a), some (.ref b), some (.int i2), some (.int j2), none] ∧ Two r i2 j2 p2 q2 ∧ p2 + q2 ≤ 100000 ∧ (o.map V.int)[j2]? = some (.int (am : Int)) ∧ cb2 p q oi oj = (du (p2 + q2) am (p2 + q2) p2 0).isSome, ?_, ?_⟩
    · refine ⟨_, rfl, _, rfl, b, _, (j : Int), .int (oj : Int), rfl, rfl, SqT.of eo1, atI_nat goj, rfl, _, rfl, ?_⟩
      rw [decI]
      unfold cb2
      by_cases hz : oj = 0
      · rw [decide_eq_true (show (oj : Int) = 0 by omega), if_pos hz]
        refine iteT ⟨_, rfl, _, rfl, _, _, rfl, rfl, j, i, q, p, oi, rfl, T', by omega, goi, ?_⟩
        rw [Nat.add_comm p q]
      · rw [decide_eq_false (show ¬ (oj : Int) = 0 by omega), if_neg hz]
        exact iteF ⟨rfl, i, j, p, q, oj, rfl, T, hsm, goj, rfl⟩
    rintro σ' G ⟨rfl, i2, j2, p2, q2, am, rfl, T2, hs2, go2, ecb⟩
    refine ⟨_, rfl, _, rfl, _, rfl, _, rfl, _, rfl, b, _, (j2 : Int), .int (am : Int), rfl, rfl, SqT.of eo1, atI_nat go2, a, r, i2, j2, p2, q2, am, rfl, ea1, T2, hs2, ?_⟩
    rw [ecb] at want
    cases hd : du (p2 + q2) am (p2 + q2) p2 0 with
    | none =>
      rw [hd] at want
      exact ⟨_, rfl, rfl, _, rfl, iteT (want.1 rfl _ s1)⟩
    | some d =>
      rw [hd] at want
      exact ⟨_, rfl, rfl, _, rfl, iteF ⟨_, rfl, _, rfl, _, rfl, by show 3 ≤ sizeLine; decide, fun p np => want.2 rfl _ p (s1.trans (same_upd np)) ⟨i2, j2, d, upd_same⟩⟩⟩
def spBroken : Sp := fun vs H Q _ => ∃ a b r o, vs = [.ref a, .ref b] ∧ Row H a r ∧ Row H b o ∧ PairQ r o ∧ ∀ H' p, Same H H' → H' p = some (.tup ((brkF r o).map V.str)) → Q (.ref p) H'
theorem ok_broken {f fA fH fC : Addr} {fd fdA fdH fdC : FuncData} {k : Nat} (F : Fun K "broken" "broken" sBroken f fd)
    (FA : Fun K "asked_of_any" "asked_of_any" sAsked fA fdA) (bA : Binds K fdA ["row", "other"] []) (gA : mg "asked_of_any" = some (.ref fA)) (GA : FnOk P w K mg base CX0 (k + 5) fA fdA ["row", "other"] spAsked)
    (FH : Fun K "holders" "holders" sHolders fH fdH) (bH : Binds K fdH ["row"] []) (gH : mg "holders" = some (.ref fH)) (GH : FnOk P w K mg base CX0 (k + 1) fH fdH ["row"] spHolders)
    (FC : Fun K "run_of_two" "run_of_two" sTwo2 fC fdC) (bC : Binds K fdC ["row", "other"] []) (gC : mg "run_of_two" = some (.ref fC)) (GC : FnOk P w K mg base CX0 (k + 3) fC fdC ["row", "other"] spTwo2)
    (ml : mg "len" = none) (mT : mg "tuple" = none) : FnOk P w K mg base CX0 (k + 6) f fd ["row", "other"] spBroken := by
  refine F.ok scBroken (fun vs H Q E h => ?_) (fun cdv A outer s H vs Q E hr h => ?_)
  · obtain ⟨a, b, r, o, rfl, _⟩ := h
    rfl
  · obtain ⟨a, b, r, o, rfl, ra, rb, h3, q⟩ := h
    have hr1 := hr.mono (show k + 1 ≤ k + 5 by omega)
    have hr3 := hr.mono (show k + 3 ≤ k + 5 by omega)
    refine ⟨_, pss_cons (ps_if (pt_cmpR (op_eqD hr.units) (pv 0) (pv 1) (nomark _)) (pss_one (ps_ret (pe_tup pa_nil))) pss_nil)
      (pss_cons (ps_if (pt_cmpR op_ne (pe_callB call_len_seq (by rfl) ml PySem.boot_len (pa_cons (pv 0) pa_nil)) (pe_callB call_len_seq (by rfl) ml PySem.boot_len (pa_cons (pv 1) pa_nil)) (nomark _)) (pss_one (ps_ret (pe_tup (pa_cons pe_str pa_nil)))) pss_nil)
      (pss_cons (ps_set (i := 2) scBroken.nd rfl (.inl rfl) (pe_callTy call_tuple_of (by rfl) mT (by decide +kernel) (pa_cons
        (pe_lc (own := [("clause", 3), ("is_broken", 4)]) (g := gTup K 2 (gCons (gName 3) (gCons (gName 4) gNil))) rfl scBroken.nd (pi_tup (pe_call GA hr (by rfl) gA FA.kp bA .nil pass0 (pa_cons (pv 0) (pa_cons (pv 1) pa_nil))))
          (blkOk_by (N := nBroken) (sc := defScope sBroken) (by decide +kernel))
          (fun _ _ _ _ _ => pg_tup rfl (pgs_cons (pg_name (i := 3) scBroken.nd rfl (.inl rfl) (.inr rfl)) (pgs_cons (pg_name (i := 4) scBroken.nd rfl (.inl rfl) (.inr rfl)) pgs_nil)))
          (fun _ _ _ _ _ => pts_one (pt_val (pv 4)))
          (fun _ _ _ _ _ => pv 3)) pa_nil)))
      (pss_cons (ps_if (PW.pt (pw_or (pt_truth (pv 2) (by intro _; rfl)) (pw_or1 (pt_cmpR op_gt (pe_callB call_len_seq (by rfl) ml PySem.boot_len (pa_cons (pe_call GH hr1 (by rfl) gH FH.kp bH .nil pass0 (pa_cons (pv 0) pa_nil)) pa_nil)) pe_int (nomark _))))) (pss_one (ps_ret (pv 2))) pss_nil)
      (pss_one (ps_ret (pe_ifExp (pt_cmpR op_isN (pe_call GC hr3 (by rfl) gC FC.kp bC .nil pass0 (pa_cons (pv 0) (pa_cons (pv 1) pa_nil))) pe_non (nomark _)) (pe_tup (pa_cons pe_str pa_nil)) (pe_tup pa_nil))))))), ?_⟩
    refine ⟨_, rfl, _, rfl, _, _, .tup (SqT.of ra.1) (dpIntsG r), .tup (SqT.of rb.1) (dpIntsG o), shapedT_ints r, shapedT_ints o, _, rfl, ?_⟩
    rw [eqv_rows]
    unfold brkF at q
    refine ite2 (fun he => ?_) (fun he => ?_)
    · have he' := of_decide_eq_true he
      rw [if_pos he'] at q
      exact ⟨by show 0 ≤ sizeLine; decide, fun p np => q _ p (same_upd np) upd_same⟩
    have he' : ¬ r = o := fun z => he (decide_eq_true z)
    have h3 := h3 he'
    rw [if_neg he'] at q
    refine ⟨_, rfl, a, _, rfl, .inr (SqT.of ra.1), _, rfl, b, _, rfl, .inr (SqT.of rb.1), rfl, _, rfl, ?_⟩
    rw [List.length_map, List.length_map, decV, decN, notD]
    refine ite2 (fun hn => ?_) (fun hn => ?_)
    · have hn' := of_decide_eq_true hn
      rw [if_pos hn'] at q
      exact ⟨by show 1 ≤ sizeLine; decide, fun p np => q _ p (same_upd np) upd_same⟩
    have hl : r.length = o.length := Decidable.of_not_not fun z => hn (decide_eq_true z)
    rw [if_neg (fun z => z hl)] at q
    refine ⟨_, rfl, _, rfl, a, b, r, o, rfl, ra, rb, hl, fun H1 p1 ts s1 e1 pr => ?_⟩
    refine ⟨p1, rfl, ⟨_, SqT.of e1⟩, fun D nD => ?_⟩
    have prl := pr.1
    refine lc_tup (K := K) (a := p1) (xs := ts.map V.ref) (fun i H' => Same H1 H' ∧ H' D = some (.lst (((((asked r o).take i).filter fun p => p.2).map fun p => p.1).map V.str))) ⟨same_upd nD, upd_same⟩ ?_ ?_ ?_
    · rintro i H' _ ⟨sm, _⟩
      exact SqT.of (sm _ _ e1)
    · rintro i x H' hx ⟨sm, hD⟩
      rw [List.getElem?_map] at hx
      obtain ⟨t, ht, rfl⟩ := Option.map_eq_some_iff.mp hx
      have hi : i < ts.length := (List.getElem?_eq_some_iff.mp ht).1
      have hc : (asked r o)[i]? = some (asked r o)[i] := List.getElem?_eq_getElem (by omega)
      generalize (asked r o)[i] = c at hc
      have et := sm _ _ (pr.2 i t c ht hc)
      refine ⟨t, _, rfl, SqT.of et, rfl, .str c.1, [.bl c.2], rfl, .bl c.2, [], rfl, rfl, rfl, _, rfl, c.2, rfl, ?_⟩
      have e1 : (asked r o).take (i + 1) = (asked r o).take i ++ [c] := by rw [List.take_add_one, hc]; rfl
      cases hb : c.2 with
      | true =>
        refine iteT ⟨_, rfl, _, hD, ?_, ?_, ?_⟩
        · rw [List.length_map, List.length_map]
          refine small1000 (Nat.le_trans (List.length_filter_le _ _) ?_)
          rw [List.length_take]
          have : (asked r o).length = 6 := rfl
          omega
        · intro c o hc
          rw [upd_ne (ne_of_none hc nD)]
          exact sm c o hc
        · rw [upd_same, e1, List.filter_append, List.map_append, List.map_append, List.filter_cons_of_pos (by simpa using hb)]
          rfl
      | false =>
        refine iteF ⟨sm, ?_⟩
        rw [e1, List.filter_append, List.filter_cons_of_neg (by rw [hb]; exact Bool.false_ne_true), List.filter_nil, List.append_nil]
        exact hD
    rintro H2 ⟨s2, hD⟩
    rw [List.length_map, prl, List.take_length] at hD
    refine ⟨D, _, rfl, .inl ⟨SqL.of hD, fun pc npc => ?_⟩⟩
    have s3 : Same H (upd H2 pc (.tup ((clausesOf r o).map V.str))) := s1.trans (s2.trans (same_upd npc))
    have e3 : upd H2 pc (.tup ((clausesOf r o).map V.str)) pc = some (.tup ((clausesOf r o).map V.str)) := upd_same
    have ec : ((((asked r o).filter fun p => p.2).map fun p => p.1).map V.str) = (clausesOf r o).map V.str := rfl
    rw [ec]
    generalize upd H2 pc (HO.tup ((clausesOf r o).map V.str)) = H3 at s3 e3 ⊢
    refine ⟨_, rfl, _, .inr (.inl ⟨_, SqT.of e3, rfl⟩), ?_⟩
    have h3 := h3 hl
    cases hk : (!((clausesOf r o).map V.str).isEmpty) with
    | true =>
      have hc : clausesOf r o ≠ [] := fun z => by rw [z] at hk; cases hk
      rw [if_pos (show clausesOf r o ≠ [] ∨ 3 ≤ (hold r r.length).length from .inl hc)] at q
      exact iteT (iteT ⟨_, rfl, q H3 pc s3 e3⟩)
    | false =>
      have hc : clausesOf r o = [] := by
        cases h : clausesOf r o with
        | nil => rfl
        | cons x l => rw [h] at hk; cases hk
      have h3 := h3 hc
      refine iteF ⟨_, rfl, a, r, rfl, (ra.same s3).1, ra.2.2.1, fun H4 p4 s4 e4 => ⟨p4, _, rfl, .inr (SqT.of e4), _, _, rfl, rfl, _, rfl, ?_⟩⟩
      rw [List.length_map]
      refine ite2 (fun z => ?_) (fun z => ?_)
      · have z' := of_decide_eq_true z
        rw [if_pos (show clausesOf r o ≠ [] ∨ 3 ≤ (hold r r.length).length from .inr (by omega))] at q
        exact ⟨_, rfl, q H4 pc (s3.trans s4) (s4 _ _ e3)⟩
      · have hn3 : ¬ 3 ≤ (hold r r.length).length := fun y => z (decide_eq_true (by omega))
        obtain ⟨h2, hsum⟩ := h3 hn3
        rw [if_neg (show ¬ (clausesOf r o ≠ [] ∨ 3 ≤ (hold r r.length).length) from fun y => y.elim (fun w => w hc) hn3)] at q
        have s34 := s3.trans s4
        refine ⟨_, rfl, _, rfl, a, b, r, o, rfl, ra.same s34, rb.same s34, hl, h2, hsum, fun hp H5 s5 => ⟨rfl, _, rfl, ?_⟩, fun hp H5 p5 s5 e5 => ⟨rfl, _, rfl, ?_⟩⟩
        · have s35 := s34.trans s5
          rw [hp, if_neg Bool.false_ne_true] at q
          exact iteT ⟨by show 1 ≤ sizeLine; decide, fun p np => q _ p (s35.trans (same_upd np)) upd_same⟩
        · have s35 := s34.trans s5
          rw [hp, if_pos rfl] at q
          exact iteF ⟨by show 0 ≤ sizeLine; decide, fun p np => q _ p (s35.trans (same_upd np)) upd_same⟩
def spComes : Sp := fun vs H Q _ => ∃ a b r o, vs = [.ref a, .ref b] ∧ Row H a r ∧ Row H b o ∧ PairQ r o ∧ ∀ H', Same H H' → Q (.bl (decide (brkF r o = []))) H'
theorem brkF_lay (r o : List Int) : ∀ x ∈ brkF r o, PyData.canLay0 (.str x) = true := by
  intro x hx
  unfold brkF at hx
  split at hx
  · cases hx
  · rename_i h1
    split at hx
    · rw [List.mem_singleton.mp hx]; decide +kernel
    · rename_i h2
      split at hx
      · refine brk_layG r o x ?_
        unfold brkT
        rw [if_neg h1, if_neg h2]
        exact hx
      · split at hx
        · cases hx
        · rw [List.mem_singleton.mp hx]; decide +kernel
theorem ok_comes {f fK : Addr} {fd fdK : FuncData} {k : Nat} (F : Fun K "comes" "comes" sComes f fd)
    (FK : Fun K "broken" "broken" sBroken fK fdK) (bK : Binds K fdK ["row", "other"] []) (gK : mg "broken" = some (.ref fK)) (GK : FnOk P w K mg base CX0 (k + 6) fK fdK ["row", "other"] spBroken) :
    FnOk P w K mg base CX0 (k + 7) f fd ["row", "other"] spComes := by
  refine F.ok scComes (fun vs H Q E h => ?_) (fun cdv A outer s H vs Q E hr h => ?_)
  · obtain ⟨a, b, r, o, rfl, _⟩ := h
    rfl
  · obtain ⟨a, b, r, o, rfl, ra, rb, h3, q⟩ := h
    have hr6 := hr
    refine ⟨_, pss_one (ps_ret (pe_cmpR (op_eqD hr.units) (pe_call GK hr6 (by rfl) gK FK.kp bK .nil pass0 (pa_cons (pv 0) (pa_cons (pv 1) pa_nil))) (pe_tup pa_nil) (nomark _))), ?_⟩
    refine ⟨_, rfl, _, rfl, a, b, r, o, rfl, ra, rb, h3, fun G p s1 e1 => ⟨by show 0 ≤ sizeLine; decide, fun e0 n0 => ?_⟩⟩
    have s2 : Same G (upd G e0 (.tup [])) := same_upd n0
    refine ⟨.tuple ((brkF r o).map PyData.str), .tuple (([] : List Str).map PyData.str), .tup (SqT.of (s2 _ _ e1)) (dpStrsG _), .tup (SqT.of upd_same) .nil, shapedT_strs _ (brkF_lay r o), rfl, ?_⟩
    rw [eqv_strs]
    exact q _ (s1.trans s2)
end
end K56

namespace K56
open PySem PySem.Spec PyProof.Rows L2 MG
abbrev sWhole : Stmt := topS 19
abbrev sHas : Stmt := topS 22
abbrev sAre : Stmt := topS 23
abbrev sGive : Stmt := topS 24
theorem scWhole : FnScope ["thing"] ["thing"] (defScope sWhole) := ⟨rfl, rfl, rfl, by decide +kernel, rfl, by decide +kernel, by decide +kernel⟩
theorem scHas : FnScope ["row", "place"] ["row", "place"] (defScope sHas) := ⟨rfl, rfl, rfl, by decide +kernel, rfl, by decide +kernel, by decide +kernel⟩
theorem scAre : FnScope ["row", "i", "j"] ["row", "i", "j"] (defScope sAre) := ⟨rfl, rfl, rfl, by decide +kernel, rfl, by decide +kernel, by decide +kernel⟩
theorem scGive : FnScope ["row", "i", "j"] ["row", "i", "j"] (defScope sGive) := ⟨rfl, rfl, rfl, by decide +kernel, rfl, by decide +kernel, by decide +kernel⟩
section
variable {P : Program} {w : World} {K : PySem.W.Frag} {mg : Str → Option Value} {base : Heap}
def spWhole : Sp := fun vs H Q _ => ∃ x d, vs = [x] ∧ Dd H x d ∧ Q (.bl (wholeD d)) H
theorem ok_whole {f : Addr} {fd : FuncData} {k : Nat} (F : Fun K "is_whole" "is_whole" sWhole f fd) (mi : mg "isinstance" = none) (mI : mg "int" = none) (mB : mg "bool" = none) :
    FnOk P w K mg base CX0 (k + 1) f fd ["thing"] spWhole := by
  refine F.ok scWhole (fun vs H Q E h => ?_) (fun cdv A outer s H vs Q E hr h => ?_)
  · obtain ⟨x, d, rfl, _⟩ := h
    rfl
  · obtain ⟨x, d, rfl, hd, q⟩ := h
    refine ⟨_, pss_one (ps_ret (pe_and
      (pe_callB call_isi (by rfl) mi (by decide +kernel) (pa_cons (pv 0) (pa_cons (pe_bltn (v := .ty "int") (by rfl) mI (by decide +kernel) rfl) pa_nil)))
      (pe_one (pe_not (pe_callB call_isi (by rfl) mi (by decide +kernel) (pa_cons (pv 0) (pa_cons (pe_bltn (v := .ty "bool") (by rfl) mB (by decide +kernel) rfl) pa_nil))))))), ?_⟩
    refine ⟨x, rfl, x, _, _, _, _, rfl, .ty "int", hd.ty, kit_int _ d, isIntD d, rfl, ?_⟩
    cases hb : isIntD d with
    | false =>
      refine iteF ?_
      have : wholeD d = false := by cases d <;> first | rfl | cases hb
      rw [this] at q
      exact q
    | true =>
      refine iteT ?_
      refine ⟨x, rfl, x, _, _, _, _, rfl, .ty "bool", hd.ty, kit_bool _ d, isBoolD d, rfl, ?_⟩
      have : wholeD d = !isBoolD d := by cases d <;> first | rfl | cases hb
      rw [this] at q
      exact q
def spHas : Sp := fun vs H Q _ => ∃ a ns x d, vs = [.ref a, x] ∧ H a = some (.tup (ns.map V.int)) ∧ Dd H x d ∧ Q (.bl (hasD ns d)) H
theorem ok_has {f fW : Addr} {fd fdW : FuncData} {k : Nat} (F : Fun K "has_something" "has_something" sHas f fd) (FW : Fun K "is_whole" "is_whole" sWhole fW fdW) (bW : Binds K fdW ["thing"] []) (gW : mg "is_whole" = some (.ref fW))
    (mi : mg "isinstance" = none) (mI : mg "int" = none) (mB : mg "bool" = none) (ml : mg "len" = none) : FnOk P w K mg base CX0 (k + 2) f fd ["row", "place"] spHas := by
  have GW : FnOk P w K mg base CX0 (k + 1) fW fdW ["thing"] spWhole := ok_whole FW mi mI mB
  refine F.ok scHas (fun vs H Q E h => ?_) (fun cdv A outer s H vs Q E hr h => ?_)
  · obtain ⟨a, ns, x, d, rfl, _⟩ := h
    rfl
  · obtain ⟨a, ns, x, d, rfl, r, hd, q⟩ := h
    refine ⟨_, pss_one (ps_ret (pe_and (pe_call GW hr (by rfl) gW FW.kp bW .nil pass0 (pa_cons (pv 1) pa_nil))
      (pe_and (pe_chain op_le op_lt pe_int (pv 1) (pe_callB call_len_seq (by rfl) ml PySem.boot_len (pa_cons (pv 0) pa_nil)))
      (pe_one (pe_cmpR op_gt (pe_ix ix_tup (pv 0) (pv 1) (fun _ _ => rfl)) pe_int (nomark _)))))), ?_⟩
    refine ⟨_, rfl, x, d, rfl, hd, wholeD d, rfl, ?_⟩
    cases hw : wholeD d with
    | false =>
      have e : hasD ns d = false := by cases d <;> first | rfl | cases hw
      rw [e] at q
      exact iteF q
    | true =>
      cases hd with
      | int p =>
        have hS : SqT K H a (ns.map V.int) := SqT.of r
        refine iteT ⟨_, rfl, 0, p, rfl, rfl, decide (0 ≤ p), rfl, ?_⟩
        cases h1 : decide (0 ≤ p) with
        | false =>
          refine iteF ⟨false, rfl, iteF ?_⟩
          rw [hasD_eq, h1] at q
          exact q
        | true =>
          refine iteT ⟨.ref a, rfl, a, _, rfl, .inr hS, p, _, rfl, rfl, ?_⟩
          rw [List.length_map]
          cases h2 : decide (p < (ns.length : Int)) with
          | false =>
            refine ⟨false, by show V.bl (decide (p < (ns.length : Int))) = V.bl false; rw [h2], iteF ?_⟩
            rw [hasD_eq, h1, h2] at q
            exact q
          | true =>
            have h1' := of_decide_eq_true h1
            have h2' := of_decide_eq_true h2
            obtain ⟨j, rfl⟩ : ∃ j : Nat, p = (j : Int) := ⟨p.toNat, by omega⟩
            refine ⟨true, by show V.bl (decide ((j : Int) < (ns.length : Int))) = V.bl true; rw [h2], iteT ⟨.ref a, rfl, _, rfl, a, _, (j : Int), .int (ns.getD j 0), rfl, rfl, hS, atI_nat (getD_at (by omega)), _, 0, rfl, rfl, ?_⟩⟩
            rw [hasD_eq, h1, h2] at q
            exact q
      | _ => cases hw
def spAre : Sp := fun vs H Q _ => ∃ a ns x y d e, vs = [.ref a, x, y] ∧ H a = some (.tup (ns.map V.int)) ∧ Dd H x d ∧ Dd H y e ∧ Q (.bl (twoD ns d e)) H
theorem ok_are {f fS : Addr} {fd fdS : FuncData} {k : Nat} (F : Fun K "are_two_holders" "are_two_holders" sAre f fd) (FS : Fun K "has_something" "has_something" sHas fS fdS) (bS : Binds K fdS ["row", "place"] []) (gS : mg "has_something" = some (.ref fS))
    (GS : FnOk P w K mg base CX0 (k + 2) fS fdS ["row", "place"] spHas) : FnOk P w K mg base CX0 (k + 3) f fd ["row", "i", "j"] spAre := by
  refine F.ok scAre (fun vs H Q E h => ?_) (fun cdv A outer s H vs Q E hr h => ?_)
  · obtain ⟨a, ns, x, y, d, e, rfl, _⟩ := h
    rfl
  · obtain ⟨a, ns, x, y, d, e, rfl, r, hd, he, q⟩ := h
    refine ⟨_, pss_one (ps_ret (pe_and (pe_call GS hr (by rfl) gS FS.kp bS .nil pass0 (pa_cons (pv 0) (pa_cons (pv 1) pa_nil))) (pe_and (pe_call GS hr (by rfl) gS FS.kp bS .nil pass0 (pa_cons (pv 0) (pa_cons (pv 2) pa_nil)))
      (pe_one (pe_cmpR op_ne (pv 1) (pv 2) (nomark _)))))), ?_⟩
    refine ⟨_, rfl, _, rfl, a, ns, x, d, rfl, r, hd, hasD ns d, rfl, ?_⟩
    cases h1 : hasD ns d with
    | false =>
      have z : twoD ns d e = false := by
        cases d <;> cases e <;> first | rfl | (rw [twoD_eq, h1]; rfl)
      rw [z] at q
      exact iteF q
    | true =>
      refine iteT ⟨_, rfl, _, rfl, a, ns, y, e, rfl, r, he, hasD ns e, rfl, ?_⟩
      obtain ⟨p, rfl, hp, hp0⟩ := hasD_int h1
      cases h2 : hasD ns e with
      | false =>
        have z : twoD ns (.int p) e = false := by
          cases e <;> first | rfl | (rw [twoD_eq, h2, Bool.false_and, Bool.and_false])
        rw [z] at q
        exact iteF q
      | true =>
        obtain ⟨p2, rfl, hp2, hp20⟩ := hasD_int h2
        cases hd
        cases he
        refine iteT ⟨_, rfl, _, rfl, rfl, ?_⟩
        rw [twoD_eq, h1, h2, Bool.true_and, Bool.true_and] at q
        have z : decide ((p : Int) ≠ (p2 : Int)) = !decide (V.int p = V.int p2) := by
          by_cases w : (p : Int) = p2
          · rw [decide_eq_false (fun z => z w), decide_eq_true (by rw [w])]; rfl
          · rw [decide_eq_true w, decide_eq_false (fun z => w (V.int.inj z))]; rfl
        rw [z] at q
        exact q
def spGive : Sp := fun vs H Q _ => ∃ a ns x y d e, vs = [.ref a, x, y] ∧ H a = some (.tup (ns.map V.int)) ∧ Dd H x d ∧ Dd H y e ∧ Q (.bl (giveD ns d e)) H
theorem ok_give {f fA : Addr} {fd fdA : FuncData} {k : Nat} (F : Fun K "may_give" "may_give" sGive f fd) (FA : Fun K "are_two_holders" "are_two_holders" sAre fA fdA) (bA : Binds K fdA ["row", "i", "j"] []) (gA : mg "are_two_holders" = some (.ref fA))
    (GA : FnOk P w K mg base CX0 (k + 3) fA fdA ["row", "i", "j"] spAre) : FnOk P w K mg base CX0 (k + 4) f fd ["row", "i", "j"] spGive := by
  refine F.ok scGive (fun vs H Q E h => ?_) (fun cdv A outer s H vs Q E hr h => ?_)
  · obtain ⟨a, ns, x, y, d, e, rfl, _⟩ := h
    rfl
  · obtain ⟨a, ns, x, y, d, e, rfl, r, hd, he, q⟩ := h
    refine ⟨_, pss_one (ps_ret (pe_and (pe_call GA hr (by rfl) gA FA.kp bA .nil pass0 (pa_cons (pv 0) (pa_cons (pv 1) (pa_cons (pv 2) pa_nil))))
      (pe_one (pe_cmpR op_ge (pe_ix ix_tup (pv 0) (pv 1) (fun _ _ => rfl)) (pe_ix ix_tup (pv 0) (pv 2) (fun _ _ => rfl)) (nomark _))))), ?_⟩
    refine ⟨_, rfl, _, rfl, _, rfl, a, ns, x, y, d, e, rfl, r, hd, he, twoD ns d e, rfl, ?_⟩
    cases h1 : twoD ns d e with
    | false =>
      have z : giveD ns d e = false := by
        cases d <;> cases e <;> first | rfl | (rw [giveD_eq, h1]; rfl)
      rw [z] at q
      exact iteF q
    | true =>
      obtain ⟨p, p2, rfl, rfl, hp, hp2, hp0, hp20, hne⟩ := twoD_int h1
      cases hd
      cases he
      rw [giveD_eq, h1, Bool.true_and, Int.toNat_natCast, Int.toNat_natCast] at q
      have hS : SqT K H a (ns.map V.int) := SqT.of r
      exact iteT ⟨.ref a, rfl, _, rfl, a, _, (p : Int), .int (ns.getD p 0), rfl, rfl, hS, atI_nat (getD_at hp), .ref a, rfl, _, rfl, a, _, (p2 : Int), .int (ns.getD p2 0), rfl, rfl, hS, atI_nat (getD_at hp2), _, _, rfl, rfl, q⟩
end
end K56

namespace K56
open PySem PySem.Spec PyProof.Rows L2 MG
abbrev sAfterD : Stmt := topS 25
theorem scAfterD : FnScope ["row", "i", "j", "amounts"] ["row", "i", "j"] (defScope sAfterD) := ⟨rfl, rfl, rfl, by decide +kernel, rfl, by decide +kernel, by decide +kernel⟩
section
variable {P : Program} {w : World} {K : PySem.W.Frag} {mg : Str → Option Value} {base : Heap}
/-- of a deed that may be done -/
def spAfterD : Sp := fun vs H Q _ => ∃ (a : Addr) (ns : List Int) (i j : Nat), vs = [.ref a, .int i, .int j] ∧ H a = some (.tup (ns.map V.int)) ∧ ns.length ≤ 40 ∧ MayG ns i j ∧ ∀ H' p, Same H H' → H p = none → H' p = some (.tup ((deed ns i j).map V.int)) → Q (.ref p) H'
theorem ok_afterD {f fG : Addr} {fd fdG : FuncData} {k : Nat} (F : Fun K "after_deed" "after_deed" sAfterD f fd) (FG : Fun K "may_give" "may_give" sGive fG fdG) (bG : Binds K fdG ["row", "i", "j"] []) (gG : mg "may_give" = some (.ref fG))
    (GG : FnOk P w K mg base CX0 (k + 4) fG fdG ["row", "i", "j"] spGive) (mL : mg "list" = none) (mT : mg "tuple" = none) : FnOk P w K mg base CX0 (k + 5) f fd ["row", "i", "j"] spAfterD := by
  refine F.ok scAfterD (fun vs H Q E h => ?_) (fun cdv A outer s H vs Q E hr h => ?_)
  · obtain ⟨a, ns, i, j, rfl, _⟩ := h
    rfl
  · obtain ⟨a, ns, i, j, rfl, r, hl, m, q⟩ := h
    refine ⟨_, pss_cons (ps_if (pt_not (pt_val (pe_call GG hr (by rfl) gG FG.kp bG .nil pass0 (pa_cons (pv 0) (pa_cons (pv 1) (pa_cons (pv 2) pa_nil)))))) pss_never pss_nil)
      (pss_cons (ps_set (i := 3) scAfterD.nd rfl (.inl rfl) (pe_callTy call_list_of (by rfl) mL (by decide +kernel) (pa_cons (pv 0) pa_nil)))
      (pss_cons (ps_asg (pe_op op_sub (pe_ix ix_tup (pv 0) (pv 1) (fun _ _ => rfl)) (pe_ix ix_tup (pv 0) (pv 2) (fun _ _ => rfl))) (pg_sub (pv 3) (pv 1) set_list))
      (pss_cons (ps_asg (pe_op op_add (pe_ix ix_tup (pv 0) (pv 2) (fun _ _ => rfl)) (pe_ix ix_tup (pv 0) (pv 2) (fun _ _ => rfl))) (pg_sub (pv 3) (pv 2) set_list))
      (pss_one (ps_ret (pe_callTy call_tuple_of (by rfl) mT (by decide +kernel) (pa_cons (pv 3) pa_nil))))))), ?_⟩
    refine ⟨_, rfl, _, rfl, _, rfl, a, ns, _, _, _, _, rfl, r, .int i, .int j, _, rfl, ?_⟩
    rw [giveD_of m]
    refine iteF ?_
    have hi := m.hi
    have hj := m.hj
    refine ⟨_, rfl, a, ns.map V.int, rfl, .inr (SqT.of r), fun l nl => ?_⟩
    have s1 : Same H (upd H l (.lst (ns.map V.int))) := same_upd nl
    have e1 : upd H l (.lst (ns.map V.int)) l = some (.lst (ns.map V.int)) := upd_same
    generalize upd H l (HO.lst (ns.map V.int)) = H1 at s1 e1 ⊢
    have r1 := s1 _ _ r
    have nla : a ≠ l := ne_of_none r nl
    have hS1 : SqT K H1 a (ns.map V.int) := SqT.of r1
    refine ⟨.ref a, rfl, _, rfl, a, _, (i : Int), .int (ns.getD i 0), rfl, rfl, hS1, atI_nat (getD_at hi), .ref a, rfl, _, rfl, a, _, (j : Int), .int (ns.getD j 0), rfl, rfl, hS1, atI_nat (getD_at hj), _, _, rfl, rfl, ?_⟩
    refine ⟨_, rfl, _, rfl, l, _, (i : Int), i, rfl, rfl, e1, ixN_nat (by rw [List.length_map]; exact hi), ?_⟩
    rw [← List.map_set]
    have e2 : upd H1 l (.lst ((ns.set i (ns.getD i 0 - ns.getD j 0)).map V.int)) l = some (.lst ((ns.set i (ns.getD i 0 - ns.getD j 0)).map V.int)) := upd_same
    have r2 : upd H1 l (.lst ((ns.set i (ns.getD i 0 - ns.getD j 0)).map V.int)) a = some (.tup (ns.map V.int)) := by rw [upd_ne nla]; exact r1
    have s2 : Same H (upd H1 l (.lst ((ns.set i (ns.getD i 0 - ns.getD j 0)).map V.int))) := fun c o hc => by rw [upd_ne (ne_of_none hc nl)]; exact s1 c o hc
    generalize upd H1 l (HO.lst ((ns.set i (ns.getD i 0 - ns.getD j 0)).map V.int)) = H2 at e2 r2 s2 ⊢
    have hS2 : SqT K H2 a (ns.map V.int) := SqT.of r2
    refine ⟨.ref a, rfl, _, rfl, a, _, (j : Int), .int (ns.getD j 0), rfl, rfl, hS2, atI_nat (getD_at hj), .ref a, rfl, _, rfl, a, _, (j : Int), .int (ns.getD j 0), rfl, rfl, hS2, atI_nat (getD_at hj), _, _, rfl, rfl, ?_⟩
    refine ⟨_, rfl, _, rfl, l, _, (j : Int), j, rfl, rfl, e2, ixN_nat (by rw [List.length_map, List.length_set]; exact hj), ?_⟩
    rw [← List.map_set, show ns.getD j 0 + ns.getD j 0 = 2 * ns.getD j 0 by omega]
    have e3 : upd H2 l (.lst ((deed ns i j).map V.int)) l = some (.lst ((deed ns i j).map V.int)) := upd_same
    have s3 : Same H (upd H2 l (.lst ((deed ns i j).map V.int))) := fun c o hc => by rw [upd_ne (ne_of_none hc nl)]; exact s2 c o hc
    have ed : (ns.set i (ns.getD i 0 - ns.getD j 0)).set j (2 * ns.getD j 0) = deed ns i j := rfl
    rw [ed]
    generalize upd H2 l (HO.lst ((deed ns i j).map V.int)) = H3 at e3 s3 ⊢
    refine ⟨_, rfl, l, _, rfl, .inl ⟨SqL.of e3, fun p np => ?_⟩⟩
    exact q _ p (s3.trans (same_upd np)) (s3.free np) upd_same
end
end K56

/-! MG: two holders: what comes of doublings by rests -/
namespace MG
open PySem PySem.Spec PyProof.Rows L2
theorem few_below : ∀ (s : Nat) (l : List Nat), l.Nodup → (∀ x ∈ l, x < s) → l.length ≤ s
  | 0, [], _, _ => Nat.le_refl _
  | 0, x :: _, _, h => absurd (h x (by simp)) (by omega)
  | s + 1, l, nd, h => by
    by_cases hm : s ∈ l
    · have h1 := few_below s (l.erase s) (nd.erase s) fun x hx => by
        obtain ⟨h1, h2⟩ := nd.mem_erase_iff.mp hx
        have := h x h2
        omega
      rw [List.length_erase_of_mem hm] at h1
      omega
    · have h1 := few_below s l nd fun x hx => by
        have := h x hx
        have : x ≠ s := fun z => hm (z ▸ hx)
        omega
      omega
theorem again {f : Nat → Nat} {s : Nat} (hf : ∀ n, f n < s) : ∃ i j, i < j ∧ j ≤ s ∧ f i = f j := by
  apply Classical.byContradiction
  intro h
  have nd : ((List.range (s + 1)).map f).Nodup := by
    rw [List.nodup_iff_pairwise_ne, List.pairwise_map]
    refine List.Pairwise.imp_of_mem ?_ List.pairwise_lt_range
    intro i j hi hj hij z
    exact h ⟨i, j, hij, by have := List.mem_range.mp hj; omega, z⟩
  have := few_below s _ nd fun x hx => by
    obtain ⟨n, _, rfl⟩ := List.mem_map.mp hx
    exact hf n
  rw [List.length_map, List.length_range] at this
  omega
theorem soon {f g : Nat → Nat} {s : Nat} (hf : ∀ n, f n < s) (hg : ∀ n, f (n + 1) = g (f n)) : ∀ m, ∃ m', m' < s ∧ f m' = f m := by
  obtain ⟨i, j, hij, hj, e⟩ := again hf
  have sh : ∀ k, f (i + k) = f (j + k) := fun k => by
    induction k with
    | zero => exact e
    | succ k ih => rw [← Nat.add_assoc, ← Nat.add_assoc, hg, hg, ih]
  intro m
  induction m using Nat.strongRecOn with
  | ind m ih =>
    by_cases hm : m < s
    · exact ⟨m, hm, rfl⟩
    · obtain ⟨m', h1, h2⟩ := ih (i + (m - j)) (by omega)
      refine ⟨m', h1, ?_⟩
      rw [h2, sh, show j + (m - j) = m by omega]
theorem dbl (s x m : Nat) : 2 * x % s * 2 ^ m % s = x * 2 ^ (m + 1) % s := by
  rw [Nat.mod_mul_mod, Nat.pow_succ, Nat.mul_comm 2 x, Nat.mul_assoc, Nat.mul_comm (2 ^ m) 2]
theorem du_some {s a : Nat} : ∀ {f x k : Nat} (m : Nat), m < f → x < s → s - x * 2 ^ m % s = a → (du s a f x k).isSome = true
  | f + 1, x, k, m, hm, hx, e => by
    rw [du]
    split
    · rfl
    · rename_i h0
      cases m with
      | zero =>
        rw [Nat.pow_zero, Nat.mul_one, Nat.mod_eq_of_lt hx] at e
        exact absurd e h0
      | succ m =>
        split
        · rename_i hz
          rw [hz, Nat.zero_mul, Nat.zero_mod] at e
          rw [hz] at h0
          exact absurd e h0
        · refine du_some m (by omega) (Nat.mod_lt _ (by omega)) ?_
          rw [dbl]; exact e
/-- within as many steps as there are rests -/
theorem du_iff {s a x k : Nat} (hx : x < s) : (du s a s x k).isSome = true ↔ ∃ m, s - x * 2 ^ m % s = a := by
  constructor
  · intro h
    apply Classical.byContradiction
    intro z
    rw [du_none (fun m e => z ⟨m, e⟩) hx] at h
    cases h
  · rintro ⟨m, e⟩
    obtain ⟨m', h1, h2⟩ := soon (f := fun m => x * 2 ^ m % s) (g := fun y => y * 2 % s) (s := s) (fun n => Nat.mod_lt _ (by omega)) (fun n => by
      show x * 2 ^ (n + 1) % s = x * 2 ^ n % s * 2 % s
      rw [Nat.mod_mul_mod, Nat.pow_succ, Nat.mul_assoc]) m
    have h2' : x * 2 ^ m' % s = x * 2 ^ m % s := h2
    exact du_some m' h1 hx (by rw [h2']; exact e)
/-- the first one's amount behind m doublings, by rests of the sum -/
def Pr (p q u v : Nat) : Prop := ∃ m, p * 2 ^ m % (p + q) = u % (p + q) ∧ u + v = p + q
theorem neg_rest {p q : Nat} (m : Nat) : (p * 2 ^ m % (p + q) + q * 2 ^ m % (p + q)) % (p + q) = 0 := by
  rw [← Nat.add_mod, ← Nat.add_mul]
  exact Nat.mul_mod_right _ _
theorem neg_eq {p q u v m : Nat} (h : 0 < p + q) (e : u + v = p + q) : p * 2 ^ m % (p + q) = u % (p + q) ↔ q * 2 ^ m % (p + q) = v % (p + q) := by
  have h1 := neg_rest (p := p) (q := q) m
  have a1 : p * 2 ^ m % (p + q) < p + q := Nat.mod_lt _ h
  have a2 : q * 2 ^ m % (p + q) < p + q := Nat.mod_lt _ h
  generalize p * 2 ^ m % (p + q) = x at h1 a1 ⊢
  generalize q * 2 ^ m % (p + q) = y at h1 a2 ⊢
  generalize p + q = s at *
  have hxy : x + y = 0 ∨ x + y = s := by
    have h2 : x + y < s + s := by omega
    by_cases z : x + y < s
    · rw [Nat.mod_eq_of_lt z] at h1; exact .inl h1
    · rw [Nat.mod_eq_sub_mod (by omega), Nat.mod_eq_of_lt (by omega)] at h1; exact .inr (by omega)
  by_cases hu : u = s
  · have hv : v = 0 := by omega
    rw [hu, hv, Nat.mod_self, Nat.zero_mod]; omega
  · by_cases hv : v = s
    · have hu0 : u = 0 := by omega
      rw [hv, hu0, Nat.mod_self, Nat.zero_mod]; omega
    · rw [Nat.mod_eq_of_lt (show u < s by omega), Nat.mod_eq_of_lt (show v < s by omega)]; omega
theorem Pr.swap {p q u v : Nat} (h : 0 < p + q) : Pr p q u v ↔ Pr q p v u := by
  constructor
  · rintro ⟨m, e, s⟩
    exact ⟨m, by rw [Nat.add_comm q p]; exact (neg_eq h s).mp e, by omega⟩
  · rintro ⟨m, e, s⟩
    rw [Nat.add_comm q p] at e s
    exact ⟨m, (neg_eq h (by omega)).mpr e, by omega⟩
theorem sub_mod {s x u v : Nat} (hx : x < s) (e : u + v = s) (hv : v ≠ 0) : s - x = v ↔ x = u % s := by
  rw [Nat.mod_eq_of_lt (show u < s by omega)]; omega
theorem cb_iff {p q u v : Nat} (hp : 0 < p) (hq : 0 < q) (e : u + v = p + q) : cb2 p q u v = true ↔ Pr p q u v := by
  have hs : 0 < p + q := by omega
  unfold cb2
  by_cases hv : v = 0
  · rw [if_pos hv, du_iff (by omega), Pr.swap hs]
    constructor
    · rintro ⟨m, h⟩
      exact ⟨m, by rw [Nat.add_comm q p]; exact (sub_mod (Nat.mod_lt _ hs) (show v + u = p + q by omega) (by omega)).mp h, by omega⟩
    · rintro ⟨m, h, _⟩
      rw [Nat.add_comm q p] at h
      exact ⟨m, (sub_mod (Nat.mod_lt _ hs) (show v + u = p + q by omega) (by omega)).mpr h⟩
  · rw [if_neg hv, du_iff (by omega)]
    constructor
    · rintro ⟨m, h⟩
      exact ⟨m, (sub_mod (Nat.mod_lt _ hs) e hv).mp h, e⟩
    · rintro ⟨m, h, _⟩
      exact ⟨m, (sub_mod (Nat.mod_lt _ hs) e hv).mpr h⟩
theorem Pr.refl (p q : Nat) : Pr p q p q := ⟨0, by rw [Nat.pow_zero, Nat.mul_one], rfl⟩
theorem Pr.trans {p q u v a b : Nat} (h1 : Pr p q u v) (h2 : Pr u v a b) : Pr p q a b := by
  obtain ⟨m, e1, s1⟩ := h1
  obtain ⟨n, e2, s2⟩ := h2
  rw [s1] at e2 s2
  refine ⟨m + n, ?_, s2⟩
  rw [Nat.pow_add, ← Nat.mul_assoc, ← Nat.mod_mul_mod, e1, Nat.mod_mul_mod]
  exact e2
/-- a deed -/
theorem Pr.deed {p q : Nat} (h : q ≤ p) : Pr p q (p - q) (2 * q) := by
  refine ⟨1, ?_, by omega⟩
  rw [Nat.pow_one, show p * 2 = p - q + (p + q) by omega, Nat.add_mod_right]
theorem Pr.deed' {p q : Nat} (h : p ≤ q) : Pr p q (2 * p) (q - p) := by
  refine ⟨1, ?_, by omega⟩
  rw [Nat.pow_one, Nat.mul_comm]
theorem Pr.mul {p q u v c : Nat} (hc : 0 < c) : Pr (c * p) (c * q) (c * u) (c * v) ↔ Pr p q u v := by
  constructor
  · rintro ⟨m, e, s⟩
    rw [← Nat.mul_add] at e s
    rw [Nat.mul_assoc, Nat.mul_mod_mul_left, Nat.mul_mod_mul_left] at e
    rw [← Nat.mul_add] at s
    exact ⟨m, Nat.eq_of_mul_eq_mul_left hc e, Nat.eq_of_mul_eq_mul_left hc s⟩
  · rintro ⟨m, e, s⟩
    refine ⟨m, ?_, by rw [← Nat.mul_add, ← Nat.mul_add, s]⟩
    rw [← Nat.mul_add, Nat.mul_assoc, Nat.mul_mod_mul_left, Nat.mul_mod_mul_left, e]
end MG

/-! MG: the broken clauses of rows laid in another order, with nothings, many times -/
namespace MG
open PySem PySem.Spec PyProof.Rows L2
/-- two entries whose first ones have something, the first pair's second ones come of them -/
def PH (Z : List (Int × Int)) : Prop := ∃ a b rest, Z.Perm (a :: b :: rest) ∧ 0 < a.1 ∧ 0 < b.1 ∧ Pr a.1.toNat b.1.toNat a.2.toNat b.2.toNat
/-- two pairs of rows, one laid from the other with nothings beside -/
structure Alike (r o r' o' : List Int) (k : Nat) : Prop where
  l : r.length = o.length
  l' : r'.length = o'.length
  pm : (r'.zip o').Perm (r.zip o ++ List.replicate k (0, 0))
theorem zipF : ∀ {r o : List Int}, r.length = o.length → (r.zip o).map Prod.fst = r
  | [], [], _ => rfl
  | x :: r, y :: o, h => by
    rw [List.zip_cons_cons, List.map_cons, zipF (by simpa using h)]
theorem zipS : ∀ {r o : List Int}, r.length = o.length → (r.zip o).map Prod.snd = o
  | [], [], _ => rfl
  | x :: r, y :: o, h => by
    rw [List.zip_cons_cons, List.map_cons, zipS (by simpa using h)]
theorem Alike.fst {r o r' o' : List Int} {k : Nat} (h : Alike r o r' o' k) : r'.Perm (r ++ List.replicate k 0) := by
  have := h.pm.map Prod.fst
  rw [List.map_append, zipF h.l, zipF h.l', List.map_replicate] at this
  exact this
theorem Alike.snd {r o r' o' : List Int} {k : Nat} (h : Alike r o r' o' k) : o'.Perm (o ++ List.replicate k 0) := by
  have := h.pm.map Prod.snd
  rw [List.map_append, zipS h.l, zipS h.l', List.map_replicate] at this
  exact this
theorem gl_more {a b : List Int} {k : Nat} (h : b.Perm (a ++ List.replicate k 0)) : gl b = gl a := by
  rw [gl_perm h, gl_append, gl_zeros, Nat.gcd_zero_right]
theorem cnt_more {a b : List Int} {k : Nat} (h : b.Perm (a ++ List.replicate k 0)) : cnt b = cnt a := by
  rw [cnt_perm h, cnt_append, cnt_zeros]; rfl
theorem sum_more {a b : List Int} {k : Nat} (h : b.Perm (a ++ List.replicate k 0)) : b.sum = a.sum := by
  have e : ∀ {x y : List Int}, x.Perm y → x.sum = y.sum := fun hp => by
    induction hp with
    | nil => rfl
    | cons x _ ih => rw [List.sum_cons, List.sum_cons, ih]
    | swap x y l => rw [List.sum_cons, List.sum_cons, List.sum_cons, List.sum_cons]; omega
    | trans _ _ i1 i2 => rw [i1, i2]
  have z : ∀ k : Nat, (List.replicate k (0 : Int)).sum = 0 := fun k => by
    induction k with
    | zero => rfl
    | succ k ih => rw [List.replicate_succ, List.sum_cons, ih]; rfl
  rw [e h, List.sum_append, z]; omega
theorem od_more {a b : List Int} {k : Nat} (h : b.Perm (a ++ List.replicate k 0)) : od b = od a := by
  unfold od
  rw [gl_more h, fewT_perm h]
  have : fewT (v2 (gl a)) (a ++ List.replicate k 0) = fewT (v2 (gl a)) a ++ fewT (v2 (gl a)) (List.replicate k 0) := by
    unfold fewT
    rw [List.filter_append]
  rw [this, fewT_zeros, List.append_nil]
theorem ms_more {a b : List Int} {k : Nat} (h : b.Perm (a ++ List.replicate k 0)) : ms b = ms a := by
  unfold ms
  rw [gl_more h]
theorem any_perm {α : Type} {p : α → Bool} {a b : List α} (h : a.Perm b) : a.any p = b.any p := by
  have e : ∀ c : List α, c.any p = true ↔ ∃ x ∈ c, p x = true := fun c => List.any_eq_true
  by_cases hb : b.any p = true
  · obtain ⟨x, hx, px⟩ := (e b).mp hb
    rw [hb]
    exact (e a).mpr ⟨x, h.mem_iff.mpr hx, px⟩
  · have : ¬ a.any p = true := fun z => by
      obtain ⟨x, hx, px⟩ := (e a).mp z
      exact hb ((e b).mpr ⟨x, h.mem_iff.mp hx, px⟩)
    rw [Bool.not_eq_true] at hb this
    rw [hb, this]
theorem Alike.hfn {r o r' o' : List Int} {k : Nat} (h : Alike r o r' o' k) : hfn r' o' = hfn r o := by
  unfold MG.hfn
  rw [any_perm h.pm, List.any_append]
  have : (List.replicate k ((0 : Int), (0 : Int))).any (fun p => decide (p.1 = 0) && decide (p.2 > 0)) = false := by
    rw [List.any_eq_false]
    intro x hx
    rw [List.eq_of_mem_replicate hx]
    decide
  rw [this, Bool.or_false]
theorem Alike.clauses {r o r' o' : List Int} {k : Nat} (h : Alike r o r' o' k) : clausesOf r' o' = clausesOf r o := by
  unfold clausesOf asked
  rw [sum_more h.fst, sum_more h.snd, h.hfn, ms_more h.fst, ms_more h.snd, gl_more h.fst, gl_more h.snd, od_more h.fst, od_more h.snd, ← cnt_hold, ← cnt_hold, cnt_more h.snd]
theorem eq_zip : ∀ {r o : List Int}, r.length = o.length → (r = o ↔ ∀ z ∈ r.zip o, z.1 = z.2)
  | [], [], _ => ⟨fun _ z hz => absurd hz List.not_mem_nil, fun _ => rfl⟩
  | x :: r, y :: o, h => by
    have ih := eq_zip (r := r) (o := o) (by simpa using h)
    rw [List.zip_cons_cons]
    constructor
    · intro e z hz
      obtain ⟨e1, e2⟩ := List.cons.inj e
      rcases List.mem_cons.mp hz with rfl | hz
      · exact e1
      · exact ih.mp e2 z hz
    · intro e
      have e1 : x = y := e (x, y) (by simp)
      rw [e1, ih.mpr fun z hz => e z (List.mem_cons_of_mem _ hz)]
theorem Alike.eq {r o r' o' : List Int} {k : Nat} (h : Alike r o r' o' k) : r' = o' ↔ r = o := by
  rw [eq_zip h.l', eq_zip h.l]
  constructor
  · exact fun e z hz => e z (h.pm.mem_iff.mpr (List.mem_append_left _ hz))
  · intro e z hz
    rcases List.mem_append.mp (h.pm.mem_iff.mp hz) with y | y
    · exact e z y
    · rw [List.eq_of_mem_replicate y]
theorem zip_range {r o : List Int} (l : r.length = o.length) : (List.range r.length).map (fun j => (r.getD j 0, o.getD j 0)) = r.zip o := by
  refine List.ext_getElem (by rw [List.length_map, List.length_range, List.length_zip]; omega) fun i h1 h2 => ?_
  rw [List.length_map, List.length_range] at h1
  rw [List.getElem_map, List.getElem_range, List.getElem_zip, getD_eq h1, getD_eq (by omega)]
theorem hold_zip {r o : List Int} (l : r.length = o.length) : (hold r r.length).map (fun i => (r.getD i.toNat 0, o.getD i.toNat 0)) = (r.zip o).filter fun z => decide (0 < z.1) := by
  unfold hold
  rw [List.map_map, ← zip_range l, List.filter_map]
  rfl
theorem two_perm {α : Type} {a b c d : α} (h : [a, b].Perm [c, d]) : (a = c ∧ b = d) ∨ (a = d ∧ b = c) := by
  have hc : c ∈ [a, b] := h.mem_iff.mpr (by simp)
  rcases List.mem_cons.mp hc with rfl | hc
  · have := h.cons_inv
    exact .inl ⟨rfl, List.singleton_perm_singleton.mp this⟩
  · have hcb := List.mem_singleton.mp hc
    subst hcb
    have h' := (List.Perm.swap a c []).trans h
    exact .inr ⟨List.singleton_perm_singleton.mp h'.cons_inv, rfl⟩
theorem sum_zero : ∀ {l : List Int}, (∀ n ∈ l, n = 0) → l.sum = 0
  | [], _ => rfl
  | x :: l, h => by
    rw [List.sum_cons, h x (by simp), sum_zero fun n hn => h n (List.mem_cons_of_mem _ hn)]; rfl
theorem perm_sumV {a b : List Int} (h : a.Perm b) : a.sum = b.sum := by
  have := sum_more (k := 0) (a := b) (b := a) (by rw [List.replicate_zero, List.append_nil]; exact h)
  exact this
theorem PH_iff {Z : List (Int × Int)} {a b : Int × Int} (hF : (Z.filter fun z => decide (0 < z.1)) = [a, b]) (n1 : ∀ z ∈ Z, 0 ≤ z.1) : PH Z ↔ Pr a.1.toNat b.1.toNat a.2.toNat b.2.toNat := by
  have ha : 0 < a.1 := by
    have : a ∈ Z.filter fun z => decide (0 < z.1) := by rw [hF]; simp
    exact of_decide_eq_true (List.mem_filter.mp this).2
  have hb : 0 < b.1 := by
    have : b ∈ Z.filter fun z => decide (0 < z.1) := by rw [hF]; simp
    exact of_decide_eq_true (List.mem_filter.mp this).2
  constructor
  · rintro ⟨c, d, rest, pm, hc, hd, h⟩
    have p2 := pm.filter fun z => decide (0 < z.1)
    rw [hF, List.filter_cons_of_pos (by simpa using hc), List.filter_cons_of_pos (by simpa using hd)] at p2
    have hl := p2.length_eq
    have hr : rest.filter (fun z => decide (0 < z.1)) = [] := List.length_eq_zero_iff.mp (by
      rw [List.length_cons, List.length_cons, List.length_cons, List.length_cons, List.length_nil] at hl
      omega)
    rw [hr] at p2
    rcases two_perm p2 with ⟨rfl, rfl⟩ | ⟨rfl, rfl⟩
    · exact h
    · exact (Pr.swap (by omega)).mp h
  · intro h
    refine ⟨a, b, Z.filter fun z => !decide (0 < z.1), ?_, ha, hb, h⟩
    have := List.filter_append_perm (fun z : Int × Int => decide (0 < z.1)) Z
    rw [hF] at this
    exact this.symm
theorem pairB_iff {r o : List Int} (l : r.length = o.length) (nr : ∀ n ∈ r, 0 ≤ n) (no : ∀ n ∈ o, 0 ≤ n) (h2 : (hold r r.length).length = 2) (hs : o.sum = r.sum) (hh : hfn r o = false) : pairB r o = true ↔ PH (r.zip o) := by
  obtain ⟨i, j, hij⟩ : ∃ i j, hold r r.length = [i, j] := by
    match hold r r.length, h2 with
    | [i, j], _ => exact ⟨i, j, rfl⟩
  have hz := hold_zip (r := r) (o := o) l
  rw [hij] at hz
  have hF : ((r.zip o).filter fun z => decide (0 < z.1)) = [(r.getD i.toNat 0, o.getD i.toNat 0), (r.getD j.toNat 0, o.getD j.toNat 0)] := hz.symm
  have n1 : ∀ z ∈ r.zip o, 0 ≤ z.1 := fun z h => nr _ (List.of_mem_zip h).1
  have n2 : ∀ z ∈ r.zip o, 0 ≤ z.2 := fun z h => no _ (List.of_mem_zip h).2
  rw [PH_iff hF n1]
  unfold pairB
  rw [hij]
  have pm := List.filter_append_perm (fun z : Int × Int => decide (0 < z.1)) (r.zip o)
  rw [hF] at pm
  have z0 : ∀ z ∈ (r.zip o).filter (fun z => !decide (0 < z.1)), z.1 = 0 ∧ z.2 = 0 := fun z h => by
    obtain ⟨h1, h3⟩ := List.mem_filter.mp h
    have a1 := n1 z h1
    have a2 := n2 z h1
    have e1 : z.1 = 0 := by
      simp only [Bool.not_eq_true', decide_eq_false_iff_not] at h3
      omega
    refine ⟨e1, ?_⟩
    unfold hfn at hh
    have := (List.any_eq_false.mp hh) z h1
    simp only [Bool.and_eq_true, decide_eq_true_eq] at this
    have : ¬ z.2 > 0 := fun y => this ⟨e1, y⟩
    omega
  generalize (r.zip o).filter (fun z => !decide (0 < z.1)) = rest at pm z0
  have s1 := perm_sumV (pm.map Prod.fst)
  have s2 := perm_sumV (pm.map Prod.snd)
  rw [zipF l, List.map_append, List.sum_append, sum_zero (l := rest.map Prod.fst) (fun n hn => by
    obtain ⟨z, hz, rfl⟩ := List.mem_map.mp hn
    exact (z0 z hz).1)] at s1
  rw [zipS l, List.map_append, List.sum_append, sum_zero (l := rest.map Prod.snd) (fun n hn => by
    obtain ⟨z, hz, rfl⟩ := List.mem_map.mp hn
    exact (z0 z hz).2)] at s2
  have t1 : r.getD i.toNat 0 + (r.getD j.toNat 0 + 0) + 0 = r.sum := s1
  have t2 : o.getD i.toNat 0 + (o.getD j.toNat 0 + 0) + 0 = o.sum := s2
  obtain ⟨p, q, rfl, rfl, hp, hq, hne, p0, q0⟩ := hold_two hij
  simp only [Int.toNat_natCast] at t1 t2 ⊢
  have u0 : 0 ≤ o.getD p 0 := by
    rw [getD_eq (by omega)]; exact no _ (List.getElem_mem _)
  have v0 : 0 ≤ o.getD q 0 := by
    rw [getD_eq (by omega)]; exact no _ (List.getElem_mem _)
  exact cb_iff (by omega) (by omega) (by omega)
end MG

/-! MG: what comes of what comes -/
namespace MG
open PySem PySem.Spec PyProof.Rows L2
/-- no clause of any row is broken -/
structure Cl (r o : List Int) : Prop where
  sum : o.sum = r.sum
  hf : hfn r o = false
  ms : MG.ms o = MG.ms r
  tw : v2 (gl r) ≤ v2 (gl o)
  od : v2 (gl o) = v2 (gl r) → MG.od o ≤ MG.od r
  dbl : v2 (gl o) = v2 (gl r) → MG.od o ≠ (hold o o.length).length
theorem cl_iff {r o : List Int} : clausesOf r o = [] ↔ Cl r o := by
  unfold clausesOf
  rw [List.map_eq_nil_iff, List.filter_eq_nil_iff]
  unfold asked
  constructor
  · intro h
    have h1 := h ("sum", decide (o.sum ≠ r.sum)) (by simp)
    have h2 := h ("nothing", hfn r o) (by simp)
    have h3 := h ("measure", decide (MG.ms o ≠ MG.ms r)) (by simp)
    have h4 := h ("twos", decide (v2 (gl o) < v2 (gl r))) (by simp)
    have h5 := h ("odd ones", decide (v2 (gl o) = v2 (gl r)) && decide (MG.od r < MG.od o)) (by simp)
    have h6 := h ("doubled", decide (v2 (gl o) = v2 (gl r)) && decide (MG.od o = (hold o o.length).length)) (by simp)
    simp only [Bool.and_eq_true, decide_eq_true_eq, Bool.not_eq_true] at h1 h2 h3 h4 h5 h6
    refine ⟨Classical.byContradiction h1, h2, Classical.byContradiction h3, by omega, fun e => ?_, fun e z => h6 ⟨e, z⟩⟩
    have : ¬ MG.od r < MG.od o := fun z => h5 ⟨e, z⟩
    omega
  · intro c x hx
    simp only [List.mem_cons, List.not_mem_nil, or_false] at hx
    rcases hx with rfl | rfl | rfl | rfl | rfl | rfl
    · simp [c.sum]
    · simp [c.hf]
    · simp [c.ms]
    · have := c.tw; simp; omega
    · simp only [Bool.and_eq_true, decide_eq_true_eq]
      rintro ⟨e, z⟩
      have := c.od e
      omega
    · simp only [Bool.and_eq_true, decide_eq_true_eq]
      rintro ⟨e, z⟩
      exact c.dbl e z
theorem hfn_pos {r o : List Int} (l : r.length = o.length) (no : ∀ n ∈ o, 0 ≤ n) (h : hfn r o = false) (p : Nat) (hp : r.getD p 0 = 0) : o.getD p 0 = 0 := by
  by_cases hl : p < r.length
  · unfold hfn at h
    have hl' : p < o.length := by omega
    have hm : (r.getD p 0, o.getD p 0) ∈ r.zip o := by
      rw [← zip_range l]
      exact List.mem_map.mpr ⟨p, List.mem_range.mpr hl, rfl⟩
    have := (List.any_eq_false.mp h) _ hm
    simp only [Bool.and_eq_true, decide_eq_true_eq] at this
    have h1 : ¬ o.getD p 0 > 0 := fun y => this ⟨hp, y⟩
    have h2 : 0 ≤ o.getD p 0 := by rw [getD_eq hl']; exact no _ (List.getElem_mem _)
    omega
  · rw [List.getD_eq_getElem?_getD, List.getElem?_eq_none (by omega)]; rfl
theorem Cl.trans {r m o : List Int} (l1 : r.length = m.length) (l2 : m.length = o.length) (nm : ∀ n ∈ m, 0 ≤ n) (no : ∀ n ∈ o, 0 ≤ n) (a : Cl r m) (b : Cl m o) : Cl r o := by
  refine ⟨b.sum.trans a.sum, hfn_of fun p h => hfn_pos l2 no b.hf p (hfn_pos l1 nm a.hf p h), b.ms.trans a.ms, Nat.le_trans a.tw b.tw, fun e => ?_, fun e => ?_⟩
  · have h1 := a.tw
    have h2 := b.tw
    exact Nat.le_trans (b.od (by omega)) (a.od (by omega))
  · have h1 := a.tw
    have h2 := b.tw
    exact b.dbl (by omega)
theorem pairB_pos {r o : List Int} {p q : Nat} (l : r.length = o.length) (nr : ∀ n ∈ r, 0 ≤ n) (no : ∀ n ∈ o, 0 ≤ n) (hh : hold r r.length = [(p : Int), (q : Int)]) (c : Cl r o) : pairB r o = true ↔ Pr (r.getD p 0).toNat (r.getD q 0).toNat (o.getD p 0).toNat (o.getD q 0).toNat := by
  rw [pairB_iff l nr no (by rw [hh]; rfl) c.sum c.hf]
  have hz := hold_zip (r := r) (o := o) l
  rw [hh] at hz
  rw [PH_iff hz.symm fun z h => nr _ (List.of_mem_zip h).1]
  simp only [Int.toNat_natCast]
theorem brkF_nil {r o : List Int} : brkF r o = [] ↔ r = o ∨ (r.length = o.length ∧ clausesOf r o = [] ∧ (3 ≤ (hold r r.length).length ∨ pairB r o = true)) := by
  unfold brkF
  by_cases h1 : r = o
  · rw [if_pos h1]; exact ⟨fun _ => .inl h1, fun _ => rfl⟩
  · rw [if_neg h1]
    by_cases h2 : r.length = o.length
    · rw [if_neg (fun z => z h2)]
      by_cases h3 : clausesOf r o = []
      · by_cases h4 : 3 ≤ (hold r r.length).length
        · rw [if_pos (.inr h4)]
          exact ⟨fun _ => .inr ⟨h2, h3, .inl h4⟩, fun _ => h3⟩
        · rw [if_neg (fun z => z.elim (fun y => y h3) h4)]
          by_cases h5 : pairB r o = true
          · rw [if_pos h5]; exact ⟨fun _ => .inr ⟨h2, h3, .inr h5⟩, fun _ => rfl⟩
          · rw [if_neg h5]
            exact ⟨(fun z => nomatch z), fun z => (z.elim h1 fun y => (y.2.2.elim h4 h5)).elim⟩
      · rw [if_pos (.inl h3)]
        exact ⟨fun z => absurd z h3, fun z => (z.elim h1 fun y => h3 y.2.1).elim⟩
    · rw [if_pos h2]
      exact ⟨(fun z => nomatch z), fun z => (z.elim h1 fun y => h2 y.1).elim⟩
theorem hold_eq {r m : List Int} (l : r.length = m.length) (h : ∀ p, p < r.length → (0 < r.getD p 0 ↔ 0 < m.getD p 0)) : hold m m.length = hold r r.length := by
  unfold hold
  rw [← l]
  congr 1
  refine List.filter_congr fun j hj => ?_
  exact dec_iff (h j (List.mem_range.mp hj)).symm
theorem pair_sum {r o : List Int} {p q : Nat} (l : r.length = o.length) (nr : ∀ n ∈ r, 0 ≤ n) (no : ∀ n ∈ o, 0 ≤ n) (hh : hold r r.length = [(p : Int), (q : Int)]) (z : ∀ j, r.getD j 0 = 0 → o.getD j 0 = 0) : o.sum = o.getD p 0 + o.getD q 0 := by
  have hz := hold_zip (r := r) (o := o) l
  rw [hh] at hz
  have pm := List.filter_append_perm (fun z : Int × Int => decide (0 < z.1)) (r.zip o)
  rw [← hz] at pm
  have s2 := perm_sumV (pm.map Prod.snd)
  rw [zipS l, List.map_append, List.sum_append, sum_zero (l := ((r.zip o).filter fun z => !decide (0 < z.1)).map Prod.snd) (fun n hn => by
    obtain ⟨y, hy, rfl⟩ := List.mem_map.mp hn
    obtain ⟨h1, h2⟩ := List.mem_filter.mp hy
    rw [← zip_range l] at h1
    obtain ⟨j, hj, rfl⟩ := List.mem_map.mp h1
    simp only [Bool.not_eq_true', decide_eq_false_iff_not] at h2
    have hj' := List.mem_range.mp hj
    have := nr _ (List.getElem_mem hj')
    rw [← getD_eq hj'] at this
    exact z j (by omega))] at s2
  have t2 : o.getD ((p : Int)).toNat 0 + (o.getD ((q : Int)).toNat 0 + 0) + 0 = o.sum := s2
  rw [Int.toNat_natCast, Int.toNat_natCast] at t2
  omega
/-- what comes of what comes -/
theorem brk_trans {r m o : List Int} (nr : ∀ n ∈ r, 0 ≤ n) (nm : ∀ n ∈ m, 0 ≤ n) (no : ∀ n ∈ o, 0 ≤ n) (h1 : brkF r m = []) (h2 : brkF m o = []) : brkF r o = [] := by
  rcases brkF_nil.mp h1 with rfl | ⟨l1, c1, a1⟩
  · exact h2
  rcases brkF_nil.mp h2 with rfl | ⟨l2, c2, a2⟩
  · exact h1
  by_cases hmo : m = o
  · rw [← hmo]; exact h1
  have k1 := cl_iff.mp c1
  have k2 := cl_iff.mp c2
  have k := k1.trans l1 l2 nm no k2
  refine brkF_nil.mpr (.inr ⟨l1.trans l2, cl_iff.mpr k, ?_⟩)
  by_cases h3 : 3 ≤ (hold r r.length).length
  · exact .inl h3
  refine .inr ?_
  have b1 := a1.resolve_left h3
  by_cases h22 : (hold r r.length).length = 2
  · obtain ⟨i, j, hij⟩ : ∃ i j, hold r r.length = [i, j] := by
      match hold r r.length, h22 with
      | [i, j], _ => exact ⟨i, j, rfl⟩
    obtain ⟨p, q, rfl, rfl, hp, hq, hne, p0, q0⟩ := hold_two hij
    have z1 : ∀ j, r.getD j 0 = 0 → m.getD j 0 = 0 := hfn_pos l1 nm k1.hf
    have z2 : ∀ j, m.getD j 0 = 0 → o.getD j 0 = 0 := hfn_pos l2 no k2.hf
    have sm := pair_sum l1 nr nm hij z1
    have so := pair_sum (l1.trans l2) nr no hij fun j h => z2 j (z1 j h)
    have rest : ∀ j, j ≠ p → j ≠ q → r.getD j 0 = 0 := fun t tp tq => by
      apply Classical.byContradiction
      intro hz
      by_cases ht : t < r.length
      · have t0 : 0 ≤ r.getD t 0 := by rw [getD_eq ht]; exact nr _ (List.getElem_mem _)
        have := hold_mem ht (by omega)
        rw [hij] at this
        simp only [List.mem_cons, List.not_mem_nil, or_false] at this
        omega
      · exact hz (by rw [List.getD_eq_getElem?_getD, List.getElem?_eq_none (by omega)]; rfl)
    have nnm : ∀ j, 0 ≤ m.getD j 0 := fun t => by
      by_cases ht : t < m.length
      · rw [getD_eq ht]; exact nm _ (List.getElem_mem _)
      · rw [List.getD_eq_getElem?_getD, List.getElem?_eq_none (by omega)]; exact Int.le_refl _
    have nno : ∀ j, 0 ≤ o.getD j 0 := fun t => by
      by_cases ht : t < o.length
      · rw [getD_eq ht]; exact no _ (List.getElem_mem _)
      · rw [List.getD_eq_getElem?_getD, List.getElem?_eq_none (by omega)]; exact Int.le_refl _
    have hs := k2.sum
    have mp := nnm p
    have mq := nnm q
    have ext : m.getD p 0 = o.getD p 0 → m.getD q 0 = o.getD q 0 → False := fun e1 e2 => hmo (List.ext_getElem l2 fun t h1 h2 => by
      rw [← getD_eq h1, ← getD_eq h2]
      by_cases tp : t = p
      · rw [tp]; exact e1
      · by_cases tq : t = q
        · rw [tq]; exact e2
        · rw [z1 t (rest t tp tq), z2 t (z1 t (rest t tp tq))])
    by_cases m1 : m.getD p 0 = 0
    · exact (ext (by rw [m1, z2 p m1]) (by have := z2 p m1; omega)).elim
    by_cases m2 : m.getD q 0 = 0
    · exact (ext (by have := z2 q m2; omega) (by rw [m2, z2 q m2])).elim
    have hm : hold m m.length = [(p : Int), (q : Int)] := by
      rw [hold_eq l1 fun t ht => ?_, hij]
      by_cases tp : t = p
      · rw [tp]; omega
      · by_cases tq : t = q
        · rw [tq]; omega
        · have e1 := rest t tp tq
          have e2 := z1 t e1
          omega
    have b2 : pairB m o = true := a2.resolve_left (by rw [hm]; exact fun (z : 3 ≤ 2) => absurd z (by decide))
    have P1 := (pairB_pos l1 nr nm hij k1).mp b1
    have P2 := (pairB_pos l2 nm no hm k2).mp b2
    exact (pairB_pos (l1.trans l2) nr no hij k).mpr (P1.trans P2)
  · unfold pairB
    match hh : hold r r.length with
    | [] => rfl
    | [_] => rfl
    | [_, _] => rw [hh] at h22; exact absurd rfl h22
    | _ :: _ :: _ :: _ => rfl
end MG

/-! MG: broken of alike rows, of rows many times, of deeds -/
namespace MG
open PySem PySem.Spec PyProof.Rows L2
theorem pairB_few {r o : List Int} (h : (hold r r.length).length ≠ 2) : pairB r o = true := by
  unfold pairB
  match hh : hold r r.length with
  | [] => rfl
  | [_] => rfl
  | [_, _] => rw [hh] at h; exact absurd rfl h
  | _ :: _ :: _ :: _ => rfl
theorem bool_iff {a b : Bool} (h : a = true ↔ b = true) : a = b := by
  cases a <;> cases b
  · rfl
  · exact absurd (h.mpr rfl) (by decide)
  · exact absurd (h.mp rfl) (by decide)
  · rfl
theorem PH_more {Z Z' : List (Int × Int)} {k : Nat} (pm : Z'.Perm (Z ++ List.replicate k (0, 0))) : PH Z' ↔ PH Z := by
  constructor
  · rintro ⟨a, b, rest, p, ha, hb, h⟩
    have p1 := (pm.symm.trans p).filter fun z => decide (0 < z.1)
    have e0 : (List.replicate k ((0 : Int), (0 : Int))).filter (fun z => decide (0 < z.1)) = [] := List.filter_eq_nil_iff.mpr fun x hx => by
      rw [List.eq_of_mem_replicate hx]; decide
    rw [List.filter_append, e0, List.append_nil, List.filter_cons_of_pos (by simpa using ha), List.filter_cons_of_pos (by simpa using hb)] at p1
    refine ⟨a, b, _, (List.filter_append_perm (fun z : Int × Int => decide (0 < z.1)) Z).symm.trans (p1.append_right _), ha, hb, h⟩
  · rintro ⟨a, b, rest, p, ha, hb, h⟩
    exact ⟨a, b, _, pm.trans (p.append_right _), ha, hb, h⟩
theorem Alike.hold {r o r' o' : List Int} {k : Nat} (h : Alike r o r' o' k) : (hold r' r'.length).length = (hold r r.length).length := by
  rw [← cnt_hold, ← cnt_hold, cnt_more h.fst]
theorem Alike.nn {r o r' o' : List Int} {k : Nat} (h : Alike r o r' o' k) (nr : ∀ n ∈ r, 0 ≤ n) (no : ∀ n ∈ o, 0 ≤ n) : (∀ n ∈ r', 0 ≤ n) ∧ ∀ n ∈ o', 0 ≤ n := by
  constructor
  · intro n hn
    rcases List.mem_append.mp (h.fst.mem_iff.mp hn) with z | z
    · exact nr n z
    · rw [List.eq_of_mem_replicate z]; exact Int.le_refl _
  · intro n hn
    rcases List.mem_append.mp (h.snd.mem_iff.mp hn) with z | z
    · exact no n z
    · rw [List.eq_of_mem_replicate z]; exact Int.le_refl _
theorem Alike.pairB {r o r' o' : List Int} {k : Nat} (h : Alike r o r' o' k) (nr : ∀ n ∈ r, 0 ≤ n) (no : ∀ n ∈ o, 0 ≤ n) (c : Cl r o) : pairB r' o' = pairB r o := by
  have c' : Cl r' o' := cl_iff.mp (h.clauses.trans (cl_iff.mpr c))
  obtain ⟨nr', no'⟩ := h.nn nr no
  by_cases h2 : (MG.hold r r.length).length = 2
  · refine bool_iff ?_
    rw [pairB_iff h.l nr no h2 c.sum c.hf, pairB_iff h.l' nr' no' (by rw [h.hold]; exact h2) c'.sum c'.hf]
    exact PH_more h.pm
  · rw [pairB_few h2, pairB_few (by rw [h.hold]; exact h2)]
theorem Alike.brk {r o r' o' : List Int} {k : Nat} (h : Alike r o r' o' k) (nr : ∀ n ∈ r, 0 ≤ n) (no : ∀ n ∈ o, 0 ≤ n) : brkF r' o' = brkF r o := by
  unfold brkF
  by_cases e : r = o
  · rw [if_pos e, if_pos (h.eq.mpr e)]
  · rw [if_neg e, if_neg (fun z => e (h.eq.mp z)), if_neg (show ¬ (r.length ≠ o.length) from fun z => z h.l), if_neg (show ¬ (r'.length ≠ o'.length) from fun z => z h.l'), h.clauses, h.hold]
    by_cases q : clausesOf r o ≠ [] ∨ 3 ≤ (MG.hold r r.length).length
    · rw [if_pos q, if_pos q]
    · rw [if_neg q, if_neg q, h.pairB nr no (cl_iff.mp (Classical.byContradiction fun z => q (.inl z)))]
theorem Alike.pq {r o r' o' : List Int} {k : Nat} (h : Alike r o r' o' k) (p : PairQ r o) : PairQ r' o' := fun a b c d => by
  rw [h.hold, sum_more h.fst]
  exact p (fun z => a (h.eq.mpr z)) h.l (by rw [← h.clauses]; exact c) (by rw [← h.hold]; exact d)
theorem sc_at (c : Int) (r : List Int) (p : Nat) : (sc c r).getD p 0 = c * r.getD p 0 := by
  unfold sc
  rw [List.getD_eq_getElem?_getD, List.getD_eq_getElem?_getD, List.getElem?_map]
  cases r[p]? with
  | none => show (0 : Int) = c * 0; omega
  | some v => rfl
theorem sc_nn {c : Int} (hc : 0 < c) {r : List Int} (nr : ∀ n ∈ r, 0 ≤ n) : ∀ n ∈ sc c r, 0 ≤ n := fun n hn => by
  obtain ⟨z, hz, rfl⟩ := List.mem_map.mp hn
  exact Int.mul_nonneg (by omega) (nr z hz)
theorem sc_holdE {c : Int} (hc : 0 < c) (r : List Int) : hold (sc c r) (sc c r).length = hold r r.length := by
  refine hold_eq (sc_len c r).symm fun p _ => ?_
  rw [sc_at, mul_pos_iff' hc]
theorem at_nn {o : List Int} (no : ∀ n ∈ o, 0 ≤ n) (t : Nat) : 0 ≤ o.getD t 0 := by
  by_cases ht : t < o.length
  · rw [getD_eq ht]; exact no _ (List.getElem_mem _)
  · rw [List.getD_eq_getElem?_getD, List.getElem?_eq_none (by omega)]; exact Int.le_refl _
theorem sc_pairB {c : Int} (hc : 0 < c) {r o : List Int} (l : r.length = o.length) (nr : ∀ n ∈ r, 0 ≤ n) (no : ∀ n ∈ o, 0 ≤ n) (hr : 0 < gl r) (ho : 0 < gl o) (k : Cl r o) : pairB (sc c r) (sc c o) = pairB r o := by
  have k' : Cl (sc c r) (sc c o) := cl_iff.mp (by rw [sc_clauses hc nr no hr ho]; exact cl_iff.mpr k)
  by_cases h2 : (hold r r.length).length = 2
  · refine bool_iff ?_
    obtain ⟨i, j, hij⟩ : ∃ i j, hold r r.length = [i, j] := by
      match hold r r.length, h2 with
      | [i, j], _ => exact ⟨i, j, rfl⟩
    obtain ⟨p, q, rfl, rfl, hp, hq, hne, p0, q0⟩ := hold_two hij
    rw [pairB_pos l nr no hij k, pairB_pos (by rw [sc_len, sc_len]; exact l) (sc_nn hc nr) (sc_nn hc no) (by rw [sc_holdE hc]; exact hij) k', sc_at, sc_at, sc_at, sc_at]
    rw [Int.toNat_mul (by omega) (at_nn nr p), Int.toNat_mul (by omega) (at_nn nr q), Int.toNat_mul (by omega) (at_nn no p), Int.toNat_mul (by omega) (at_nn no q)]
    exact Pr.mul (by omega)
  · rw [pairB_few h2, pairB_few (by rw [sc_holdE hc]; exact h2)]
theorem sc_brkF {c : Int} (hc : 0 < c) {r o : List Int} (nr : ∀ n ∈ r, 0 ≤ n) (no : ∀ n ∈ o, 0 ≤ n) (hr : 0 < gl r) (ho : 0 < gl o) : brkF (sc c r) (sc c o) = brkF r o := by
  unfold brkF
  rw [sc_len c o, sc_holdE hc]
  by_cases e : r = o
  · rw [if_pos e, if_pos (by rw [e])]
  · rw [if_neg e, if_neg (fun z => e (sc_inj hc z)), sc_len]
    by_cases l : r.length = o.length
    · rw [if_neg (show ¬ (r.length ≠ o.length) from fun z => z l), if_neg (show ¬ (r.length ≠ o.length) from fun z => z l), sc_clauses hc nr no hr ho]
      by_cases q : clausesOf r o ≠ [] ∨ 3 ≤ (hold r r.length).length
      · rw [if_pos q, if_pos q]
      · rw [if_neg q, if_neg q, sc_pairB hc l nr no hr ho (cl_iff.mp (Classical.byContradiction fun z => q (.inl z)))]
    · rw [if_pos l, if_pos l]
theorem brk_deed {r : List Int} {i j : Nat} (h : MayG r i j) (nr : ∀ n ∈ r, 0 ≤ n) : brkF r (deed r i j) = [] := by
  have lv := deed_lv h nr
  have c := lv.clauses
  have nd := deed_nn h nr
  refine brkF_nil.mpr (.inr ⟨lv.len.symm, c, ?_⟩)
  by_cases h3 : 3 ≤ (hold r r.length).length
  · exact .inl h3
  refine .inr ?_
  by_cases h2 : (hold r r.length).length = 2
  · obtain ⟨x, y, hij⟩ : ∃ i j, hold r r.length = [i, j] := by
      match hold r r.length, h2 with
      | [i, j], _ => exact ⟨i, j, rfl⟩
    obtain ⟨p, q, rfl, rfl, hp, hq, hne, p0, q0⟩ := hold_two hij
    have pi := h.pj
    have ge := h.ge
    have mi := hold_mem h.hi (by omega)
    have mj := hold_mem h.hj pi
    rw [hij] at mi mj
    simp only [List.mem_cons, List.not_mem_nil, or_false] at mi mj
    have hne' := h.ne
    have di : (deed r i j).getD i 0 = r.getD i 0 - r.getD j 0 := by
      unfold deed
      rw [getD_set (by rw [List.length_set]; exact h.hj), if_neg (fun z => hne' z.symm), getD_set h.hi, if_pos rfl]
    have dj : (deed r i j).getD j 0 = 2 * r.getD j 0 := by
      unfold deed
      rw [getD_set (by rw [List.length_set]; exact h.hj), if_pos rfl]
    rw [pairB_pos lv.len.symm nr nd hij (cl_iff.mp c)]
    rcases (show (p = i ∧ q = j) ∨ (p = j ∧ q = i) by omega) with ⟨rfl, rfl⟩ | ⟨rfl, rfl⟩
    · rw [di, dj]
      have := Pr.deed (p := (r.getD p 0).toNat) (q := (r.getD q 0).toNat) (by omega)
      rw [show (r.getD p 0 - r.getD q 0).toNat = (r.getD p 0).toNat - (r.getD q 0).toNat by omega, show (2 * r.getD q 0).toNat = 2 * (r.getD q 0).toNat by omega]
      exact this
    · rw [di, dj]
      have := Pr.deed' (p := (r.getD p 0).toNat) (q := (r.getD q 0).toNat) (by omega)
      rw [show (r.getD q 0 - r.getD p 0).toNat = (r.getD q 0).toNat - (r.getD p 0).toNat by omega, show (2 * r.getD p 0).toNat = 2 * (r.getD p 0).toNat by omega]
      exact this
  · exact pairB_few h2
/-! ### rows laid in an order, with a nothing -/
theorem alike_order {r o : List Int} {s : List Nat} (l : r.length = o.length) (hs : s.Perm (List.range r.length)) : Alike r o (s.map fun p => r.getD p 0) (s.map fun p => o.getD p 0) 0 := by
  refine ⟨l, by rw [List.length_map, List.length_map], ?_⟩
  rw [List.replicate_zero, List.append_nil, ← zip_range l, List.zip_map']
  exact hs.map _
theorem alike_nothing {r o : List Int} {k : Nat} (l : r.length = o.length) : Alike r o (r.take k ++ [0] ++ r.drop k) (o.take k ++ [0] ++ o.drop k) 1 := by
  refine ⟨l, by simp only [List.length_append, List.length_take, List.length_drop]; omega, ?_⟩
  rw [List.append_assoc, List.append_assoc, List.zip_append (by rw [List.length_take, List.length_take]; omega), List.singleton_append, List.singleton_append, List.zip_cons_cons]
  refine List.perm_middle.trans ?_
  rw [← List.zip_append (by rw [List.length_take, List.length_take]; omega), List.take_append_drop, List.take_append_drop]
  exact (List.perm_append_comm (l₁ := [((0 : Int), (0 : Int))]) (l₂ := r.zip o))
end MG

/-! MG: wishes -/
namespace MG
open PySem PySem.Spec PyProof.Rows L2
/-- the wishes as a row, 0 for none -/
def wA (ws : List (Option Int)) : List Int := ws.map fun w => w.getD 0
def isFr (r : List Int) (ws : List (Option Int)) (j : Nat) : Bool := (ws.getD j (some 0)).isNone && decide (0 < r.getD j 0)
/-- the places that are free -/
def free (r : List Int) (ws : List (Option Int)) (i : Nat) : List Int := ((List.range i).filter (isFr r ws)).map fun (j : Nat) => (j : Int)
def Meets (ws : List (Option Int)) (o : List Int) : Prop := o.length = ws.length ∧ ∀ (p : Nat) (v : Int), ws[p]? = some (some v) → o[p]? = some v
def fillF (r : List Int) (ws : List (Option Int)) : Option (List Int) :=
  if r.sum - (wA ws).sum < 0 ∨ (0 < r.sum - (wA ws).sum ∧ free r ws ws.length = []) then none
  else if 1 < (free r ws ws.length).length ∧ 2 * (gl r : Int) < r.sum - (wA ws).sum then
    some (((wA ws).set ((free r ws ws.length).getLastD 0).toNat (2 * (gl r : Int))).set ((free r ws ws.length).headD 0).toNat (r.sum - (wA ws).sum - 2 * (gl r : Int)))
  else if free r ws ws.length = [] then some (wA ws) else some ((wA ws).set ((free r ws ws.length).headD 0).toNat (r.sum - (wA ws).sum))
def wishF (r : List Int) (ws : List (Option Int)) : Option (List Int) :=
  match fillF r ws with
  | some o => if brkT r o = [] then some o else none
  | none => none
theorem free_succ (r : List Int) (ws : List (Option Int)) (i : Nat) : free r ws (i + 1) = free r ws i ++ (if isFr r ws i = true then [(i : Int)] else []) := by
  unfold free
  rw [List.range_succ, List.filter_append, List.map_append]
  congr 1
  cases h : isFr r ws i with
  | true => rw [List.filter_cons_of_pos h, List.filter_nil]; rfl
  | false => rw [List.filter_cons_of_neg (by rw [h]; exact Bool.false_ne_true), List.filter_nil]; rfl
theorem free_len (r : List Int) (ws : List (Option Int)) (i : Nat) : (free r ws i).length ≤ i := by
  unfold free
  rw [List.length_map]
  exact Nat.le_trans (List.length_filter_le _ _) (by rw [List.length_range]; exact Nat.le_refl _)
theorem wA_len (ws : List (Option Int)) : (wA ws).length = ws.length := List.length_map _
theorem free_mem {r : List Int} {ws : List (Option Int)} {x : Int} (h : x ∈ free r ws ws.length) : ∃ p : Nat, x = p ∧ p < ws.length ∧ ws[p]? = some none ∧ 0 < r.getD p 0 := by
  obtain ⟨p, hp, rfl⟩ := List.mem_map.mp h
  obtain ⟨h1, h2⟩ := List.mem_filter.mp hp
  have hl := List.mem_range.mp h1
  unfold isFr at h2
  rw [Bool.and_eq_true, decide_eq_true_eq] at h2
  refine ⟨p, rfl, hl, ?_, h2.2⟩
  rw [List.getD_eq_getElem?_getD, List.getElem?_eq_getElem hl] at h2
  rw [List.getElem?_eq_getElem hl]
  have := h2.1
  rw [Option.getD_some, Option.isNone_iff_eq_none] at this
  rw [this]
theorem mem_free {r : List Int} {ws : List (Option Int)} {p : Nat} (h : ws[p]? = some none) (h0 : 0 < r.getD p 0) : (p : Int) ∈ free r ws ws.length := by
  have hl : p < ws.length := (List.getElem?_eq_some_iff.mp h).1
  refine List.mem_map.mpr ⟨p, List.mem_filter.mpr ⟨List.mem_range.mpr hl, ?_⟩, rfl⟩
  unfold isFr
  rw [List.getD_eq_getElem?_getD, h, decide_eq_true h0]
  rfl
theorem wA_none {ws : List (Option Int)} {p : Nat} (h : ws[p]? = some none) : (wA ws)[p]? = some 0 := by
  unfold wA
  rw [List.getElem?_map, h]; rfl
theorem wA_some {ws : List (Option Int)} {p : Nat} {v : Int} (h : ws[p]? = some (some v)) : (wA ws)[p]? = some v := by
  unfold wA
  rw [List.getElem?_map, h]; rfl
theorem meets_wA (ws : List (Option Int)) : Meets ws (wA ws) := ⟨wA_len ws, fun p v h => wA_some h⟩
theorem meets_set {ws : List (Option Int)} {o : List Int} {p : Nat} {x : Int} (m : Meets ws o) (h : ws[p]? = some none) : Meets ws (o.set p x) := by
  refine ⟨by rw [List.length_set]; exact m.1, fun q v hq => ?_⟩
  have hne : p ≠ q := fun z => by rw [← z, h] at hq; cases hq
  rw [List.getElem?_set_ne hne]
  exact m.2 q v hq
/-- what is beside the wishes -/
def restW : List (Option Int) → List Int → List Int
  | none :: ws, n :: o => n :: restW ws o
  | some _ :: ws, _ :: o => 0 :: restW ws o
  | _, _ => []
theorem meets_cons {w : Option Int} {ws : List (Option Int)} {n : Int} {o : List Int} (m : Meets (w :: ws) (n :: o)) : Meets ws o ∧ ∀ v, w = some v → n = v := by
  refine ⟨⟨Nat.succ.inj m.1, fun p v h => m.2 (p + 1) v h⟩, fun v h => ?_⟩
  have := m.2 0 v (by rw [h]; rfl)
  exact Option.some.inj this
theorem meets_sum {f : Int → Int} (f0 : f 0 = 0) : ∀ {ws : List (Option Int)} {o : List Int}, Meets ws o → (o.map f).sum = ((wA ws).map f).sum + ((restW ws o).map f).sum
  | [], [], _ => rfl
  | [], _ :: _, m => absurd m.1 (by simp)
  | _ :: _, [], m => absurd m.1 (by simp)
  | none :: ws, n :: o, m => by
    have ih := meets_sum f0 (meets_cons m).1
    show f n + (o.map f).sum = (f 0 + ((wA ws).map f).sum) + (f n + ((restW ws o).map f).sum)
    omega
  | some v :: ws, n :: o, m => by
    have ih := meets_sum f0 (meets_cons m).1
    have e := (meets_cons m).2 v rfl
    subst e
    show f n + (o.map f).sum = (f n + ((wA ws).map f).sum) + (f 0 + ((restW ws o).map f).sum)
    omega
theorem rest_mem : ∀ {ws : List (Option Int)} {o : List Int} {n : Int}, n ∈ restW ws o → n = 0 ∨ n ∈ o
  | none :: ws, m :: o, n, h => by
    rcases List.mem_cons.mp h with z | z
    · exact .inr (z ▸ List.mem_cons_self)
    · exact (rest_mem z).imp id (List.mem_cons_of_mem _)
  | some _ :: ws, m :: o, n, h => by
    rcases List.mem_cons.mp h with z | z
    · exact .inl z
    · exact (rest_mem z).imp id (List.mem_cons_of_mem _)
  | [], _, _, h => by cases h
  | none :: _, [], _, h => by cases h
  | some _ :: _, [], _, h => by cases h
theorem rest_at : ∀ {ws : List (Option Int)} {o : List Int} {p : Nat}, o.length = ws.length → (restW ws o).getD p 0 = if ws[p]? = some none then o.getD p 0 else 0
  | [], [], p, _ => by simp [restW]
  | [], _ :: _, _, h => by cases h
  | _ :: _, [], _, h => by cases h
  | none :: ws, n :: o, 0, _ => by simp [restW]
  | some v :: ws, n :: o, 0, _ => by simp [restW]
  | none :: ws, n :: o, p + 1, h => by
    have := rest_at (ws := ws) (o := o) (p := p) (Nat.succ.inj h)
    simpa [restW] using this
  | some v :: ws, n :: o, p + 1, h => by
    have := rest_at (ws := ws) (o := o) (p := p) (Nat.succ.inj h)
    simpa [restW] using this
theorem rest_len : ∀ {ws : List (Option Int)} {o : List Int}, o.length = ws.length → (restW ws o).length = ws.length
  | [], [], _ => rfl
  | [], _ :: _, h => by cases h
  | _ :: _, [], h => by cases h
  | none :: ws, n :: o, h => congrArg Nat.succ (rest_len (ws := ws) (o := o) (Nat.succ.inj h))
  | some v :: ws, n :: o, h => congrArg Nat.succ (rest_len (ws := ws) (o := o) (Nat.succ.inj h))
theorem map_id_sum (l : List Int) : (l.map fun n => n).sum = l.sum := by rw [List.map_id']
theorem sum_setF (f : Int → Int) {l : List Int} {p : Nat} {x y : Int} (h : l[p]? = some y) : ((l.set p x).map f).sum = (l.map f).sum - f y + f x := by
  have hp : p < l.length := (List.getElem?_eq_some_iff.mp h).1
  rw [List.map_set, sum_setG _ p (by rw [List.length_map]; exact hp), List.getElem_map, (List.getElem?_eq_some_iff.mp h).2]
theorem sum_dvd {d : Int} : ∀ {l : List Int}, (∀ n ∈ l, d ∣ n) → d ∣ l.sum
  | [], _ => ⟨0, by simp⟩
  | x :: l, h => by
    rw [List.sum_cons]
    exact Int.dvd_add (h x List.mem_cons_self) (sum_dvd fun n hn => h n (List.mem_cons_of_mem _ hn))
theorem sum_nn : ∀ {l : List Int}, (∀ n ∈ l, 0 ≤ n) → 0 ≤ l.sum
  | [], _ => Int.le_refl _
  | x :: l, h => by
    rw [List.sum_cons]
    have := h x List.mem_cons_self
    have := sum_nn (l := l) fun n hn => h n (List.mem_cons_of_mem _ hn)
    omega
theorem oddF_zero (t : Nat) : oddF t 0 = 0 := by unfold oddF; rw [if_pos (by simp)]
theorem oddF_le (t : Nat) {n : Int} (h : 0 ≤ n) : oddF t n ≤ posF n := by
  unfold oddF posF
  by_cases z : n = 0
  · subst z; simp
  · rw [if_pos (show 0 < n by omega)]
    split <;> decide
theorem oddF_nn (t : Nat) (n : Int) : 0 ≤ oddF t n := by unfold oddF; split <;> decide
theorem oddF_dvd {t : Nat} {n : Int} (h : (2 : Int) ^ (t + 1) ∣ n) : oddF t n = 0 := by
  unfold oddF; rw [if_pos (Int.emod_eq_zero_of_dvd h)]
theorem oddF_sum (t : Nat) : ∀ {l : List Int}, oddF t l.sum ≤ (l.map (oddF t)).sum
  | [] => by rw [List.sum_nil, oddF_zero]; exact Int.le_refl _
  | x :: l => by
    have ih := oddF_sum t (l := l)
    have h1 := oddF_nn t x
    have h2 := sum_nn (l := l.map (oddF t)) fun n hn => by obtain ⟨m, _, rfl⟩ := List.mem_map.mp hn; exact oddF_nn t m
    rw [List.sum_cons, List.map_cons, List.sum_cons]
    by_cases hx : (2 : Int) ^ (t + 1) ∣ x
    · have : oddF t (x + l.sum) = oddF t l.sum := by
        unfold oddF
        rw [Int.add_emod, Int.emod_eq_zero_of_dvd hx, Int.zero_add, Int.emod_emod_of_dvd _ (Int.dvd_refl _)]
      omega
    · have h3 : oddF t x = 1 := by
        unfold oddF
        rw [if_neg fun z => hx (Int.dvd_of_emod_eq_zero z)]
      have : oddF t (x + l.sum) ≤ 1 := by unfold oddF; split <;> decide
      omega
theorem od_sum {r : List Int} (nr : ∀ n ∈ r, 0 ≤ n) : ((od r : Nat) : Int) = (r.map (oddF (v2 (gl r)))).sum := few_sum _ nr
theorem hold_pos (r : List Int) : (((hold r r.length).length : Nat) : Int) = (r.map posF).sum := by rw [hold_all, pos_sum]
theorem all_dvd {o : List Int} {u : Nat} (no : ∀ n ∈ o, 0 ≤ n) (h : ∀ n ∈ o, (u : Int) ∣ n) : u ∣ gl o := gl_all fun n hn => by
  have h1 := h n hn
  have h2 := no n hn
  have : ((u : Nat) : Int) ∣ ((n.toNat : Nat) : Int) := by rw [Int.toNat_of_nonneg h2]; exact h1
  exact Int.natCast_dvd_natCast.mp this
theorem gl_dvdI {o : List Int} {n : Int} (no : 0 ≤ n) (hn : n ∈ o) : (gl o : Int) ∣ n := by
  have := Int.natCast_dvd_natCast.mpr (gl_dvd hn)
  rwa [Int.toNat_of_nonneg no] at this
theorem cl_of {r o : List Int} (nr : ∀ n ∈ r, 0 ≤ n) (no : ∀ n ∈ o, 0 ≤ n) (h0 : 0 < gl r) (hs : o.sum = r.sum) (hz : ∀ p, r.getD p 0 = 0 → o.getD p 0 = 0) (hg : gl o = gl r ∨ gl o = 2 * gl r)
    (h1 : (o.map (oddF (v2 (gl r)))).sum ≤ (r.map (oddF (v2 (gl r)))).sum) (h2 : (o.map (oddF (v2 (gl r)))).sum < (o.map posF).sum) : Cl r o := by
  have hm := ms_of h0 hg
  refine ⟨hs, hfn_of hz, hm.1, hm.2, fun e => ?_, fun e => ?_⟩
  · have a := od_sum nr
    have b := od_sum no
    rw [e] at b
    omega
  · have b := od_sum no
    rw [e] at b
    have := hold_pos o
    omega
/-- what is known of a row that comes -/
structure Knows (r o : List Int) : Prop where
  len : o.length = r.length
  sum : o.sum = r.sum
  noth : ∀ p, r.getD p 0 = 0 → o.getD p 0 = 0
  dv : ∀ n ∈ o, (gl r : Int) ∣ n
  odd : (o.map (oddF (v2 (gl r)))).sum ≤ (r.map (oddF (v2 (gl r)))).sum
theorem pow_dvdI {n : Int} {k : Nat} {g : Nat} (h : 2 ^ k ∣ g) (hn : (g : Int) ∣ n) : (2 : Int) ^ k ∣ n := by
  have : ((2 ^ k : Nat) : Int) ∣ (g : Int) := Int.natCast_dvd_natCast.mpr h
  rw [Int.natCast_pow] at this
  exact Int.dvd_trans this hn
theorem ms_dvd {r o : List Int} (hr : 0 < gl r) (ho : 0 < gl o) (h1 : ms o = ms r) (h2 : v2 (gl r) ≤ v2 (gl o)) : gl r ∣ gl o := by
  rw [ms_nat, ms_nat] at h1
  have e : gl o / 2 ^ v2 (gl o) = gl r / 2 ^ v2 (gl r) := by omega
  rw [v2_split hr, v2_split ho, e]
  exact Nat.mul_dvd_mul (Nat.pow_dvd_pow 2 h2) (Nat.dvd_refl _)
theorem knows {r o : List Int} (nr : ∀ n ∈ r, 0 ≤ n) (no : ∀ n ∈ o, 0 ≤ n) (hr : 0 < gl r) (ho : 0 < gl o) (h : brkT r o = []) : Knows r o := by
  by_cases he : r = o
  · subst he
    exact ⟨rfl, rfl, fun _ z => z, fun n hn => gl_dvdI (nr n hn) hn, Int.le_refl _⟩
  unfold brkT at h
  rw [if_neg he] at h
  by_cases hl : r.length = o.length
  · rw [if_neg (fun z => z hl)] at h
    have c := cl_iff.mp h
    have dv : ∀ n ∈ o, (gl r : Int) ∣ n := fun n hn => Int.dvd_trans (Int.natCast_dvd_natCast.mpr (ms_dvd hr ho c.ms c.tw)) (gl_dvdI (no n hn) hn)
    refine ⟨hl.symm, c.sum, fun p z => hfn_pos hl no c.hf p z, dv, ?_⟩
    by_cases e : v2 (gl o) = v2 (gl r)
    · have := c.od e
      have a := od_sum nr
      have b := od_sum no
      rw [e] at b
      omega
    · have hlt : v2 (gl r) + 1 ≤ v2 (gl o) := by have := c.tw; omega
      have z : (o.map (oddF (v2 (gl r)))).sum = 0 := sum_zero fun x hx => by
        obtain ⟨n, hn, rfl⟩ := List.mem_map.mp hx
        exact oddF_dvd (pow_dvdI ((pow_dvd_iff ho).mpr hlt) (gl_dvdI (no n hn) hn))
      rw [z]
      exact sum_nn fun x hx => by obtain ⟨n, _, rfl⟩ := List.mem_map.mp hx; exact oddF_nn _ n
  · rw [if_pos hl] at h; cases h
theorem brk_of_cl {r o : List Int} (hl : r.length = o.length) (c : Cl r o) : brkT r o = [] := by
  unfold brkT
  split
  · rfl
  · rw [if_neg (fun z => z hl)]; exact cl_iff.mpr c
theorem pos_gl {o : List Int} (no : ∀ n ∈ o, 0 ≤ n) (h : 0 < o.sum) : 0 < gl o := by
  by_cases z : ∃ n ∈ o, 0 < n
  · obtain ⟨n, hn, h0⟩ := z
    exact gl_pos hn h0
  · have := sum_zero (l := o) fun n hn => by
      have := no n hn
      have : ¬ 0 < n := fun y => z ⟨n, hn, y⟩
      omega
    omega
theorem gl_between {r o : List Int} (no : ∀ n ∈ o, 0 ≤ n) (dv : ∀ n ∈ o, (gl r : Int) ∣ n) (h2 : 2 * (gl r : Int) ∈ o) (h0 : 0 < gl r) : gl o = gl r ∨ gl o = 2 * gl r := by
  have a : gl r ∣ gl o := all_dvd no dv
  have b : gl o ∣ 2 * gl r := by
    have := gl_dvd h2
    rwa [show (2 * (gl r : Int)).toNat = 2 * gl r by omega] at this
  obtain ⟨c, hc⟩ := a
  obtain ⟨d, hd⟩ := b
  rw [hc, Nat.mul_assoc, Nat.mul_comm] at hd
  have h1 : 2 = c * d := Nat.eq_of_mul_eq_mul_left h0 hd
  have hc2 : c ≤ 2 := Nat.le_of_dvd (by decide) ⟨d, h1⟩
  rcases c with _ | _ | _ | c
  · omega
  · left; omega
  · right; omega
  · omega
theorem oddF_two {t u : Nat} (ht : t = v2 u) : oddF t (2 * (u : Int)) = 0 := by
  refine oddF_dvd ?_
  subst ht
  have h := pow_v2_dvd u
  obtain ⟨c, hc⟩ := h
  refine ⟨(c : Int), ?_⟩
  have e : ((u : Nat) : Int) = 2 ^ v2 u * (c : Int) := by
    have e : ((u : Nat) : Int) = ((2 ^ v2 u * c : Nat) : Int) := by rw [← hc]
    rw [e, Int.natCast_mul, Int.natCast_pow]; rfl
  rw [e, Int.pow_succ]
  generalize (2 : Int) ^ v2 u = z
  grind
theorem oddF_sub {t u : Nat} (ht : t = v2 u) (x : Int) : oddF t (x - 2 * (u : Int)) = oddF t x := by
  have h := oddF_two ht
  unfold oddF at h ⊢
  have e : 2 * (u : Int) % 2 ^ (t + 1) = 0 := by
    by_cases z : 2 * (u : Int) % 2 ^ (t + 1) = 0
    · exact z
    · rw [if_neg z] at h; cases h
  have : (x - 2 * (u : Int)) % 2 ^ (t + 1) = x % 2 ^ (t + 1) := by
    rw [Int.sub_emod, e, Int.sub_zero, Int.emod_emod_of_dvd _ (Int.dvd_refl _)]
  rw [this]
end MG

/-! MG: wishes filled -/
namespace MG
open PySem PySem.Spec PyProof.Rows L2
def wV : Option Int → V
  | none => .non
  | some v => .int v
theorem wV_non (w : Option Int) : decide (wV w = V.non) = w.isNone := by
  cases w with
  | none => exact decide_eq_true rfl
  | some v => exact decide_eq_false (fun z => nomatch z)
/-- the forms in which wishes are filled -/
inductive Fill (r : List Int) (ws : List (Option Int)) : List Int → Prop
  | none (h : free r ws ws.length = []) (hs : r.sum = (wA ws).sum) : Fill r ws (wA ws)
  | one (p : Nat) (h : ws[p]? = some Option.none) (h0 : 0 < r.getD p 0) (hl : 0 ≤ r.sum - (wA ws).sum) (hh : (free r ws ws.length).headD 0 = p)
      (hk : (free r ws ws.length).length ≤ 1 ∨ r.sum - (wA ws).sum ≤ 2 * (gl r : Int)) : Fill r ws ((wA ws).set p (r.sum - (wA ws).sum))
  | two (p q : Nat) (hp : ws[p]? = some Option.none) (hq : ws[q]? = some Option.none) (hp0 : 0 < r.getD p 0) (hq0 : 0 < r.getD q 0) (hne : p ≠ q) (hl : 2 * (gl r : Int) < r.sum - (wA ws).sum) :
      Fill r ws (((wA ws).set q (2 * (gl r : Int))).set p (r.sum - (wA ws).sum - 2 * (gl r : Int)))
theorem free_nodup (r : List Int) (ws : List (Option Int)) (i : Nat) : (free r ws i).Nodup := by
  unfold free
  refine List.Pairwise.map _ ?_ ((List.nodup_range).filter _)
  intro a b h z
  exact h (by omega)
theorem last_ne {l : List Int} (h : 1 < l.length) (hn : l.Nodup) : l.headD 0 ∈ l ∧ l.getLastD 0 ∈ l ∧ l.headD 0 ≠ l.getLastD 0 := by
  match l, h with
  | x :: y :: l, _ =>
    have e : (x :: y :: l).getLastD 0 = (y :: l).getLast (by simp) := by simp [List.getLastD, List.getLast?_cons_cons]
    have m : (y :: l).getLast (by simp) ∈ (y :: l) := List.getLast_mem _
    rw [e]
    refine ⟨List.mem_cons_self, List.mem_cons_of_mem _ m, ?_⟩
    rintro rfl
    exact (List.nodup_cons.mp hn).1 m
theorem fill_form {r : List Int} {ws : List (Option Int)} {o : List Int} (h : fillF r ws = some o) : Fill r ws o := by
  unfold fillF at h
  split at h
  · cases h
  rename_i h1
  have h1a : ¬ r.sum - (wA ws).sum < 0 := fun z => h1 (.inl z)
  split at h
  · rename_i h2
    cases h
    obtain ⟨a, b, c⟩ := last_ne h2.1 (free_nodup r ws ws.length)
    obtain ⟨p, ep, hp1, hp2, hp3⟩ := free_mem a
    obtain ⟨q, eq, hq1, hq2, hq3⟩ := free_mem b
    rw [ep, eq, Int.toNat_natCast, Int.toNat_natCast]
    exact .two p q hp2 hq2 hp3 hq3 (fun z => c (by rw [ep, eq, z])) h2.2
  rename_i h2
  split at h
  · rename_i h3
    cases h
    exact .none h3 (by have : ¬ 0 < r.sum - (wA ws).sum := fun z => h1 (.inr ⟨z, h3⟩); omega)
  · rename_i h3
    cases h
    have a : (free r ws ws.length).headD 0 ∈ free r ws ws.length := by
      match free r ws ws.length, h3 with
      | x :: l, _ => exact List.mem_cons_self
    obtain ⟨p, ep, hp1, hp2, hp3⟩ := free_mem a
    rw [ep, Int.toNat_natCast]
    refine .one p hp2 hp3 (by omega) ep ?_
    by_cases z : (free r ws ws.length).length ≤ 1
    · exact .inl z
    · exact .inr (by have : ¬ 2 * (gl r : Int) < r.sum - (wA ws).sum := fun y => h2 ⟨by omega, y⟩; omega)
theorem Fill.meets {r : List Int} {ws : List (Option Int)} {o : List Int} (h : Fill r ws o) : Meets ws o := by
  cases h with
  | none => exact meets_wA ws
  | one p h => exact meets_set (meets_wA ws) h
  | two p q hp hq => exact meets_set (meets_set (meets_wA ws) hq) hp
theorem Fill.sumF {r : List Int} {ws : List (Option Int)} {o : List Int} (h : Fill r ws o) {f : Int → Int} (f0 : f 0 = 0) :
    (o = wA ws ∧ r.sum = (wA ws).sum) ∨ (o.map f).sum = ((wA ws).map f).sum + f (r.sum - (wA ws).sum) ∨ (o.map f).sum = ((wA ws).map f).sum + f (2 * (gl r : Int)) + f (r.sum - (wA ws).sum - 2 * (gl r : Int)) := by
  cases h with
  | none _ hs => exact .inl ⟨rfl, hs⟩
  | one p h =>
    right; left
    rw [sum_setF f (wA_none h), f0]; omega
  | two p q hp hq _ _ hne =>
    right; right
    rw [sum_setF f (y := 0), sum_setF f (wA_none hq), f0]
    · omega
    · rw [List.getElem?_set_ne hne.symm]
      exact wA_none hp
theorem Fill.sum {r : List Int} {ws : List (Option Int)} {o : List Int} (h : Fill r ws o) : o.sum = r.sum := by
  rcases h.sumF (f := fun n => n) rfl with ⟨rfl, z⟩ | z | z
  · exact z.symm
  · rw [map_id_sum, map_id_sum] at z; omega
  · rw [map_id_sum, map_id_sum] at z; omega
theorem wA_nn {ws : List (Option Int)} (h : ∀ v, some v ∈ ws → 0 ≤ v) : ∀ n ∈ wA ws, 0 ≤ n := by
  intro n hn
  obtain ⟨w, hw, rfl⟩ := List.mem_map.mp hn
  cases w with
  | none => exact Int.le_refl _
  | some v => exact h v hw
theorem Fill.nn {r : List Int} {ws : List (Option Int)} {o : List Int} (h : Fill r ws o) (hw : ∀ v, some v ∈ ws → 0 ≤ v) : ∀ n ∈ o, 0 ≤ n := by
  have hA := wA_nn hw
  have hset : ∀ {l : List Int} {p : Nat} {x : Int}, (∀ n ∈ l, 0 ≤ n) → 0 ≤ x → ∀ n ∈ l.set p x, 0 ≤ n := fun hl hx n hn => by
    rcases List.mem_or_eq_of_mem_set hn with z | z
    · exact hl n z
    · rw [z]; exact hx
  cases h with
  | none => exact hA
  | one p _ _ hl => exact hset hA hl
  | two p q _ _ _ _ _ hl => exact hset (hset hA (by omega)) (by omega)
theorem Fill.noth {r : List Int} {ws : List (Option Int)} {o o' : List Int} (h : Fill r ws o) (m : Meets ws o') (k : ∀ p, r.getD p 0 = 0 → o'.getD p 0 = 0) : ∀ p, r.getD p 0 = 0 → o.getD p 0 = 0 := by
  have hA : ∀ p, r.getD p 0 = 0 → (wA ws).getD p 0 = 0 := fun p hp => by
    cases hw : ws[p]? with
    | none => rw [List.getD_eq_getElem?_getD, List.getElem?_eq_none (by rw [wA_len]; exact List.getElem?_eq_none_iff.mp hw)]; rfl
    | some w =>
      cases w with
      | none => rw [List.getD_eq_getElem?_getD, wA_none hw]; rfl
      | some v =>
        have e := k p hp
        rw [List.getD_eq_getElem?_getD, m.2 p v hw] at e
        rw [List.getD_eq_getElem?_getD, wA_some hw]
        exact e
  have hset : ∀ {l : List Int} {q : Nat} {x : Int}, (∀ p, r.getD p 0 = 0 → l.getD p 0 = 0) → 0 < r.getD q 0 → ∀ p, r.getD p 0 = 0 → (l.set q x).getD p 0 = 0 := fun {l q x} hl hq p hp => by
    have hne : q ≠ p := fun z => by rw [← z] at hp; omega
    rw [List.getD_eq_getElem?_getD, List.getElem?_set_ne hne, ← List.getD_eq_getElem?_getD]
    exact hl p hp
  cases h with
  | none => exact hA
  | one p _ h0 => exact hset hA h0
  | two p q _ _ hp0 hq0 => exact hset (hset hA hq0) hp0
theorem wA_dvd {ws : List (Option Int)} {o : List Int} {d : Int} (m : Meets ws o) (h : ∀ n ∈ o, d ∣ n) : ∀ n ∈ wA ws, d ∣ n := by
  intro n hn
  obtain ⟨w, hw, rfl⟩ := List.mem_map.mp hn
  cases w with
  | none => exact ⟨0, by simp⟩
  | some v =>
    obtain ⟨p, hp⟩ := List.getElem?_of_mem hw
    exact h _ (List.mem_of_getElem? (m.2 p v hp))
theorem ext0 {a b : List Int} (l : a.length = b.length) (h : ∀ p, p < a.length → a.getD p 0 = b.getD p 0) : a = b := by
  refine List.ext_getElem l fun p h1 h2 => ?_
  have := h p h1
  rwa [getD_eq h1, getD_eq h2] at this
/-- whatever comes and meets the wishes, the filled row comes -/
theorem fill_best {r : List Int} {ws : List (Option Int)} {o' : List Int} (l : ws.length = r.length) (nr : ∀ n ∈ r, 0 ≤ n) (hr : 0 < gl r) (m : Meets ws o') (no' : ∀ n ∈ o', 0 ≤ n) (hb : brkT r o' = []) (hS : 0 < r.sum) (hS' : o'.sum = r.sum) :
    ∃ o, fillF r ws = some o ∧ brkT r o = [] := by
  have kn := knows nr no' hr (pos_gl no' (by omega)) hb
  have sm := meets_sum (f := fun n => n) rfl m
  rw [map_id_sum, map_id_sum, map_id_sum] at sm
  have rnn : ∀ n ∈ restW ws o', 0 ≤ n := fun n hn => (rest_mem hn).elim (fun z => by omega) (no' n)
  have rdv : ∀ n ∈ restW ws o', (gl r : Int) ∣ n := fun n hn => (rest_mem hn).elim (fun z => by rw [z]; exact ⟨0, by simp⟩) (kn.dv n)
  have rs0 := sum_nn rnn
  have hleft : r.sum - (wA ws).sum = (restW ws o').sum := by omega
  have hmeq : ∀ p, (∀ n ∈ restW ws o', n = 0) → o'.getD p 0 = (wA ws).getD p 0 := fun p hz => by
    cases hw : ws[p]? with
    | none =>
      have := List.getElem?_eq_none_iff.mp hw
      rw [List.getD_eq_getElem?_getD, List.getD_eq_getElem?_getD, List.getElem?_eq_none (by rw [m.1]; exact this), List.getElem?_eq_none (by rw [wA_len]; exact this)]
    | some w =>
      cases w with
      | none =>
        have h1 := rest_at (ws := ws) (o := o') (p := p) m.1
        rw [if_pos hw] at h1
        rw [← h1]
        have hp : p < (restW ws o').length := by rw [rest_len m.1]; exact (List.getElem?_eq_some_iff.mp hw).1
        rw [hz _ (getD_mem hp), List.getD_eq_getElem?_getD, wA_none hw]; rfl
      | some v => rw [List.getD_eq_getElem?_getD, List.getD_eq_getElem?_getD, wA_some hw, m.2 p v hw]
  have zeroO : (restW ws o').sum = 0 → o' = wA ws := fun hz => by
    have hall : ∀ n ∈ restW ws o', n = 0 := fun n hn => by
      have := mem_le_sumG rnn n hn
      have := rnn n hn
      omega
    exact ext0 (by rw [m.1, wA_len]) fun p _ => hmeq p hall
  have fr0 : free r ws ws.length = [] → (restW ws o').sum = 0 := fun hf => sum_zero fun n hn => by
    obtain ⟨p, hp, e⟩ := List.getElem_of_mem hn
    have h1 := rest_at (ws := ws) (o := o') (p := p) m.1
    rw [getD_eq hp, e] at h1
    rw [h1]
    split
    · rename_i hw
      by_cases h0 : 0 < r.getD p 0
      · have := mem_free hw h0
        rw [hf] at this
        cases this
      · refine kn.noth p ?_
        have := at_nn nr p
        omega
    · rfl
  -- it is filled
  obtain ⟨o, ho⟩ : ∃ o, fillF r ws = some o := by
    unfold fillF
    rw [if_neg (show ¬ _ from fun z => by
      rcases z with z | ⟨z1, z2⟩
      · omega
      · have := fr0 z2; omega)]
    split
    · exact ⟨_, rfl⟩
    · split <;> exact ⟨_, rfl⟩
  refine ⟨o, ho, ?_⟩
  have F := fill_form ho
  have hwv : ∀ v, some v ∈ ws → 0 ≤ v := fun v hv => by
    obtain ⟨p, hp⟩ := List.getElem?_of_mem hv
    exact no' _ (List.mem_of_getElem? (m.2 p v hp))
  have nno := F.nn hwv
  have len : r.length = o.length := by rw [F.meets.1, l]
  have Adv := wA_dvd m kn.dv
  have ldv : (gl r : Int) ∣ r.sum - (wA ws).sum := by rw [hleft]; exact sum_dvd rdv
  have so := meets_sum (f := oddF (v2 (gl r))) (oddF_zero _) m
  have sr := oddF_sum (v2 (gl r)) (l := restW ws o')
  have hodd := kn.odd
  have hsetdv : ∀ {l : List Int} {p : Nat} {x : Int}, (∀ n ∈ l, (gl r : Int) ∣ n) → (gl r : Int) ∣ x → ∀ n ∈ l.set p x, (gl r : Int) ∣ n := fun hl hx n hn => by
    rcases List.mem_or_eq_of_mem_set hn with z | z
    · exact hl n z
    · rw [z]; exact hx
  -- a row with twice the unit in it
  have even : (∀ n ∈ o, (gl r : Int) ∣ n) → 2 * (gl r : Int) ∈ o → (o.map (oddF (v2 (gl r)))).sum ≤ (o'.map (oddF (v2 (gl r)))).sum → brkT r o = [] := fun dv h2 hle => by
    refine brk_of_cl len (cl_of nr nno hr F.sum (F.noth m kn.noth) (gl_between nno dv h2 hr) (by omega) ?_)
    refine sum_lt_of (fun n hn => oddF_le _ (nno n hn)) ⟨_, h2, ?_⟩
    rw [oddF_two rfl]
    unfold posF
    rw [if_pos (by omega)]
    decide
  cases F with
  | none h hs =>
    rw [← zeroO (by omega)]
    exact hb
  | two p q hp hq hp0 hq0 hne hl =>
    have hq' : q < (wA ws).length := by rw [wA_len]; exact (List.getElem?_eq_some_iff.mp hq).1
    refine even (hsetdv (hsetdv Adv ⟨2, by rw [Int.mul_comm]⟩) (Int.dvd_sub ldv ⟨2, by rw [Int.mul_comm]⟩)) ?_ ?_
    · refine List.mem_of_getElem? (i := q) ?_
      rw [List.getElem?_set_ne hne, List.getElem?_set_self hq']
    · rw [sum_setF _ (y := 0) (by rw [List.getElem?_set_ne hne.symm]; exact wA_none hp), sum_setF _ (wA_none hq), oddF_zero, oddF_two rfl, oddF_sub rfl, so, hleft]
      omega
  | one p hp h0 hl hh hk =>
    have hp' : p < (wA ws).length := by rw [wA_len]; exact (List.getElem?_eq_some_iff.mp hp).1
    by_cases hone : (free r ws ws.length).length ≤ 1
    · -- one place alone is free
      have hfr : free r ws ws.length = [(p : Int)] := by
        have hm := mem_free hp h0
        match hf : free r ws ws.length, hone with
        | [], _ => rw [hf] at hm; cases hm
        | [x], _ =>
          rw [hf] at hm
          rw [List.mem_singleton.mp hm]
      have e : o' = (wA ws).set p (o'.getD p 0) := ext0 (by rw [List.length_set, m.1, wA_len]) fun q hq => by
        by_cases hqp : p = q
        · subst hqp
          rw [List.getD_eq_getElem?_getD (l := (wA ws).set p _), List.getElem?_set_self hp']; rfl
        · rw [List.getD_eq_getElem?_getD (l := (wA ws).set p _), List.getElem?_set_ne hqp, ← List.getD_eq_getElem?_getD]
          cases hw : ws[q]? with
          | none => rw [List.getElem?_eq_none_iff] at hw; rw [m.1] at hq; omega
          | some w =>
            cases w with
            | some v => rw [List.getD_eq_getElem?_getD, List.getD_eq_getElem?_getD, wA_some hw, m.2 q v hw]
            | none =>
              have hz : r.getD q 0 = 0 := by
                by_cases h0' : 0 < r.getD q 0
                · have := mem_free hw h0'
                  rw [hfr] at this
                  have := List.mem_singleton.mp this
                  omega
                · have := at_nn nr q
                  omega
              rw [kn.noth q hz, List.getD_eq_getElem?_getD, wA_none hw]; rfl
      have hs := congrArg List.sum e
      have hs2 := sum_setF (fun n => n) (l := wA ws) (p := p) (x := o'.getD p 0) (wA_none hp)
      rw [map_id_sum, map_id_sum] at hs2
      have hv : o'.getD p 0 = r.sum - (wA ws).sum := by omega
      rw [hv] at e
      rw [← e]
      exact hb
    have hle := hk.resolve_left hone
    by_cases hz : (restW ws o').sum = 0
    · have e : (wA ws).set p (r.sum - (wA ws).sum) = wA ws := by
        rw [hleft, hz]
        refine ext0 (List.length_set ..) fun q _ => ?_
        by_cases hqp : p = q
        · subst hqp
          rw [List.getD_eq_getElem?_getD, List.getElem?_set_self hp', List.getD_eq_getElem?_getD, wA_none hp]
        · rw [List.getD_eq_getElem?_getD, List.getElem?_set_ne hqp, ← List.getD_eq_getElem?_getD]
      rw [e, ← zeroO hz]
      exact hb
    obtain ⟨c, hc⟩ := ldv
    have hc2 : c = 1 ∨ c = 2 := by
      have h1 : 0 < (gl r : Int) * c := by omega
      have h2 : (gl r : Int) * c ≤ (gl r : Int) * 2 := by omega
      have h3 := Int.le_of_mul_le_mul_left h2 (by omega)
      have h4 : 0 < c := Int.lt_of_not_ge fun z => by have := Int.mul_le_mul_of_nonneg_left z (show 0 ≤ (gl r : Int) by omega); omega
      omega
    have dvo : ∀ n ∈ (wA ws).set p (r.sum - (wA ws).sum), (gl r : Int) ∣ n := hsetdv Adv ⟨c, hc⟩
    have oo : (((wA ws).set p (r.sum - (wA ws).sum)).map (oddF (v2 (gl r)))).sum = ((wA ws).map (oddF (v2 (gl r)))).sum + oddF (v2 (gl r)) (r.sum - (wA ws).sum) := by
      rw [sum_setF _ (wA_none hp), oddF_zero]; omega
    have hmem : r.sum - (wA ws).sum ∈ (wA ws).set p (r.sum - (wA ws).sum) := List.mem_of_getElem? (List.getElem?_set_self hp')
    rcases hc2 with rfl | rfl
    · -- the unit itself is left
      rw [Int.mul_one] at hc
      have hgo : gl ((wA ws).set p (r.sum - (wA ws).sum)) = gl r := by
        refine Nat.dvd_antisymm ?_ (all_dvd nno dvo)
        have h5 := gl_dvd hmem
        have h6 : (r.sum - (wA ws).sum).toNat = gl r := by rw [hc]; exact Int.toNat_natCast _
        rw [h6] at h5; exact h5
      have pu : oddF (v2 (gl r)) (gl r : Int) = 1 := by
        unfold oddF
        rw [if_neg fun z => ?_]
        have h1 := Int.dvd_of_emod_eq_zero z
        have h2 : 2 ^ (v2 (gl r) + 1) ∣ gl r := by
          refine Int.natCast_dvd_natCast.mp ?_
          rw [Int.natCast_pow]; exact h1
        have := (pow_dvd_iff hr).mp h2
        omega
      have hrest : (restW ws o').sum = gl r := by omega
      rw [hrest, pu] at sr
      -- one alone beside the wishes has something
      have two : ∀ a b : Nat, a ≠ b → 0 < (restW ws o').getD a 0 → 0 < (restW ws o').getD b 0 → False := fun a b hab ha hb2 => by
        have la : a < (restW ws o').length := Nat.lt_of_not_le fun z => by rw [List.getD_eq_getElem?_getD, List.getElem?_eq_none z] at ha; cases ha
        have lb : b < (restW ws o').length := Nat.lt_of_not_le fun z => by rw [List.getD_eq_getElem?_getD, List.getElem?_eq_none z] at hb2; cases hb2
        have h1 := two_le_sum rnn la lb hab
        have h2 := Int.le_of_dvd ha (rdv _ (getD_mem la))
        have h3 := Int.le_of_dvd hb2 (rdv _ (getD_mem lb))
        omega
      have hne : r ≠ o' := fun z => by
        obtain ⟨a, b, ca⟩ := last_ne (l := free r ws ws.length) (by omega) (free_nodup r ws ws.length)
        obtain ⟨x, ex, hx1, hx2, hx3⟩ := free_mem a
        obtain ⟨y, ey, hy1, hy2, hy3⟩ := free_mem b
        refine two x y (fun w => ca (by rw [ex, ey, w])) ?_ ?_
        · rw [rest_at m.1, if_pos hx2, ← z]; exact hx3
        · rw [rest_at m.1, if_pos hy2, ← z]; exact hy3
      unfold brkT at hb
      rw [if_neg hne, if_neg (fun z => z kn.len.symm)] at hb
      have c := cl_iff.mp hb
      have sp := meets_sum (f := posF) rfl m
      have prest : ((restW ws o').map posF).sum ≤ 1 := by
        rw [← pos_sum]
        match hf : (restW ws o').filter fun n => decide (0 < n) with
        | [] => decide
        | [x] => simp
        | x :: y :: l2 =>
          exfalso
          have hlt : 1 < (hold (restW ws o') (restW ws o').length).length := by rw [hold_all, hf]; simp
          match hh2 : hold (restW ws o') (restW ws o').length, hlt with
          | i :: j :: l3, _ =>
            have hi : i ∈ hold (restW ws o') (restW ws o').length := by rw [hh2]; exact List.mem_cons_self
            have hj : j ∈ hold (restW ws o') (restW ws o').length := by rw [hh2]; exact List.mem_cons_of_mem _ List.mem_cons_self
            obtain ⟨a, ea, ha1, ha2⟩ := hold_get hi
            obtain ⟨b, eb, hb1, hb2⟩ := hold_get hj
            have nd : (hold (restW ws o') (restW ws o').length).Nodup := by
              unfold hold
              refine List.Pairwise.map _ ?_ ((List.nodup_range).filter _)
              intro a b h z
              exact h (by omega)
            rw [hh2] at nd
            have hij : i ≠ j := fun z => (List.nodup_cons.mp nd).1 (by rw [z]; exact List.mem_cons_self)
            exact two a b (fun z => hij (by rw [ea, eb, z])) ha2 hb2
      have pp : (((wA ws).set p (r.sum - (wA ws).sum)).map posF).sum = ((wA ws).map posF).sum + 1 := by
        rw [sum_setF posF (wA_none hp), hc]
        have h1 : posF (gl r : Int) = 1 := by unfold posF; rw [if_pos (by omega)]
        have h2 : posF 0 = 0 := rfl
        omega
      rw [hc] at oo
      rw [pu] at oo
      have v2o : v2 (gl o') = v2 (gl r) := by
        have h1 := c.tw
        refine Nat.le_antisymm (Nat.le_of_not_lt fun z => ?_) h1
        have h2 : (o'.map (oddF (v2 (gl r)))).sum = 0 := sum_zero fun x hx => by
          obtain ⟨n, hn, rfl⟩ := List.mem_map.mp hx
          exact oddF_dvd (pow_dvdI ((pow_dvd_iff (pos_gl no' (by omega))).mpr z) (gl_dvdI (no' n hn) hn))
        have h3 := sum_nn (l := (wA ws).map (oddF (v2 (gl r)))) fun x hx => by obtain ⟨n, _, rfl⟩ := List.mem_map.mp hx; exact oddF_nn _ n
        omega
      have dbl := c.dbl v2o
      have d1 := od_sum no'
      rw [v2o] at d1
      have d2 := hold_pos o'
      have d3 : (o'.map (oddF (v2 (gl r)))).sum ≤ (o'.map posF).sum := sum_le_of (l := o') (fun n hn => oddF_le (v2 (gl r)) (no' n hn))
      refine brk_of_cl len (cl_of nr nno hr (Fill.one p hp h0 hl hh hk).sum ((Fill.one p hp h0 hl hh hk).noth m kn.noth) (.inl hgo) ?_ ?_)
      · rw [hc]; omega
      · rw [pp, hc]; omega
    · refine even dvo ?_ ?_
      · rw [show 2 * (gl r : Int) = r.sum - (wA ws).sum by omega]; exact hmem
      · rw [oo, so, hleft]
        omega
/-- all is wished -/
theorem wish_all {r o : List Int} : wishF r (o.map some) = if o.sum = r.sum ∧ brkT r o = [] then some o else none := by
  have ef : free r (o.map some) (o.map some).length = [] := by
    cases h : free r (o.map some) (o.map some).length with
    | nil => rfl
    | cons x l =>
      obtain ⟨p, _, _, hp, _⟩ := free_mem (r := r) (ws := o.map some) (x := x) (by rw [h]; exact List.mem_cons_self)
      rw [List.getElem?_map] at hp
      obtain ⟨y, _, hy⟩ := Option.map_eq_some_iff.mp hp
      cases hy
  have eA : wA (o.map some) = o := by unfold wA; rw [List.map_map]; exact List.map_id _
  unfold wishF fillF
  rw [ef, eA]
  by_cases hs : o.sum = r.sum
  · rw [if_neg (show ¬ (r.sum - o.sum < 0 ∨ 0 < r.sum - o.sum ∧ ([] : List Int) = []) from fun z => by rcases z with z | z <;> omega), if_neg (show ¬ (1 < ([] : List Int).length ∧ _) from fun z => by have := z.1; simp at this), if_pos rfl]
    by_cases hb : brkT r o = []
    · rw [if_pos ⟨hs, hb⟩]
      show (if brkT r o = [] then some o else none) = some o
      rw [if_pos hb]
    · rw [if_neg (fun z => hb z.2)]
      show (if brkT r o = [] then some o else none) = none
      rw [if_neg hb]
  · rw [if_pos (show r.sum - o.sum < 0 ∨ 0 < r.sum - o.sum ∧ ([] : List Int) = [] from by
      rcases Int.lt_or_gt_of_ne hs with z | z
      · exact .inr ⟨by omega, rfl⟩
      · exact .inl (by omega)), if_neg (fun z => hs z.1)]
/-- what is told where some row comes that meets the wishes -/
theorem wish_some {r : List Int} {ws : List (Option Int)} {o' : List Int} (l : ws.length = r.length) (nr : ∀ n ∈ r, 0 ≤ n) (hr : 0 < gl r) (m : Meets ws o') (no' : ∀ n ∈ o', 0 ≤ n) (hb : brkT r o' = []) (hS : 0 < r.sum) (hS' : o'.sum = r.sum) : ∃ o, wishF r ws = some o := by
  obtain ⟨o, h1, h2⟩ := fill_best l nr hr m no' hb hS hS'
  exact ⟨o, by unfold wishF; rw [h1]; show (if brkT r o = [] then some o else none) = some o; rw [if_pos h2]⟩
theorem wish_told {r : List Int} {ws : List (Option Int)} {o : List Int} (h : wishF r ws = some o) : fillF r ws = some o ∧ brkT r o = [] := by
  unfold wishF at h
  split at h
  · rename_i x hx
    split at h
    · rename_i hb
      cases h
      exact ⟨hx, hb⟩
    · cases h
  · cases h
theorem brk_sum {r o : List Int} (h : brkT r o = []) : o.sum = r.sum := by
  unfold brkT at h
  split at h
  · rename_i e; rw [e]
  · split at h
    · cases h
    · exact (cl_iff.mp h).sum
/-- one place let alone -/
theorem wish_one {r o : List Int} {p : Nat} (l : o.length = r.length) (hp : p < o.length) (nr : ∀ n ∈ r, 0 ≤ n) (no : ∀ n ∈ o, 0 ≤ n) (hr : 0 < gl r) (hS : 0 < r.sum) (hs : o.sum = r.sum) :
    wishF r ((o.map some).set p none) = if brkT r o = [] then some o else none := by
  have hw : ((o.map some).set p none)[p]? = some none := List.getElem?_set_self (by rw [List.length_map]; exact hp)
  have hm : Meets ((o.map some).set p none) o := by
    refine ⟨by rw [List.length_set, List.length_map], fun q v hq => ?_⟩
    have hne : p ≠ q := fun z => by rw [← z, hw] at hq; cases hq
    rw [List.getElem?_set_ne hne, List.getElem?_map] at hq
    obtain ⟨y, hy, e⟩ := Option.map_eq_some_iff.mp hq
    cases e
    exact hy
  have key : ∀ o2, wishF r ((o.map some).set p none) = some o2 → o2 = o := fun o2 h2 => by
    obtain ⟨h1, h3⟩ := wish_told h2
    have F := fill_form h1
    have mm := F.meets
    have e : o2 = o.set p (o2.getD p 0) := ext0 (by rw [List.length_set, mm.1, List.length_set, List.length_map]) fun q hq => by
      by_cases hqp : p = q
      · subst hqp
        rw [List.getD_eq_getElem?_getD (l := o.set p _), List.getElem?_set_self hp]; rfl
      · rw [List.getD_eq_getElem?_getD (l := o.set p _), List.getElem?_set_ne hqp]
        have hq' : q < o.length := by rw [mm.1, List.length_set, List.length_map] at hq; exact hq
        rw [List.getD_eq_getElem?_getD, mm.2 q o[q] (by rw [List.getElem?_set_ne hqp, List.getElem?_map, List.getElem?_eq_getElem hq']; rfl), List.getElem?_eq_getElem hq']
    have hsum := congrArg List.sum e
    have h4 := F.sum
    have hs2 := sum_setF (fun n => n) (l := o) (p := p) (x := o2.getD p 0) (y := o[p]) (List.getElem?_eq_getElem hp)
    rw [map_id_sum, map_id_sum] at hs2
    have hv : o2.getD p 0 = o[p] := by omega
    rw [hv, List.set_getElem_self] at e
    exact e
  by_cases hb : brkT r o = []
  · rw [if_pos hb]
    obtain ⟨o2, h2⟩ := wish_some (by rw [List.length_set, List.length_map, l]) nr hr hm no hb hS hs
    rw [h2, key o2 h2]
  · rw [if_neg hb]
    cases h : wishF r ((o.map some).set p none) with
    | none => rfl
    | some o2 =>
      have e := key o2 h
      subst e
      exact absurd (wish_told h).2 hb
end MG

/-! MG: what is due of wishes where two places at least are free -/
namespace MG
open PySem PySem.Spec PyProof.Rows L2
def posL (l : List Int) : List Int := l.filter fun n => decide (0 < n)
def isPow (n : Nat) : Bool := decide (n / 2 ^ v2 n = 1)
/-- in units -/
def dueU (s : List Int) (l : Int) (od : Nat) : Bool :=
  if oddc s = 0 ∧ l % 2 = 0 ∧ (0 < l ∨ isPow (gl s) = true) then true
  else if l = 0 then isPow (gl s) && (decide (0 < oddc s) && decide (oddc s ≤ od)) && decide (oddc s < s.length)
  else if l % 2 = 1 then decide (oddc s + 1 ≤ od) && (decide (1 < l) || decide (oddc s < s.length))
  else decide (0 < oddc s) && decide (oddc s ≤ od)
theorem isPow_iff {n : Nat} (h : 0 < n) : isPow n = true ↔ ∃ k, n = 2 ^ k := by
  unfold isPow
  rw [decide_eq_true_eq]
  constructor
  · intro e
    have := v2_split h
    rw [e, Nat.mul_one] at this
    exact ⟨_, this⟩
  · rintro ⟨k, rfl⟩
    have : v2 (2 ^ k) = k := v2_unique (m := 1) (by rw [Nat.mul_one]) rfl
    rw [this, Nat.div_self (Nat.two_pow_pos k)]
theorem cl_unit {r o : List Int} (nr : ∀ n ∈ r, 0 ≤ n) (no : ∀ n ∈ o, 0 ≤ n) (hr : 0 < gl r) (ho : 0 < gl o) (hs : o.sum = r.sum) (l : r.length = o.length) (hz : ∀ p, r.getD p 0 = 0 → o.getD p 0 = 0) :
    Cl r o ↔ (∃ k, gl o = gl r * 2 ^ k) ∧ (gl o = gl r → (o.map (oddF (v2 (gl r)))).sum ≤ (r.map (oddF (v2 (gl r)))).sum ∧ (o.map (oddF (v2 (gl r)))).sum < (o.map posF).sum) := by
  have hod := od_sum nr
  have hoo := od_sum no
  have hp := hold_pos o
  have hle : (o.map (oddF (v2 (gl r)))).sum ≤ (o.map posF).sum := sum_le_of (l := o) fun n hn => oddF_le _ (no n hn)
  constructor
  · intro c
    constructor
    · have h1 := c.ms
      rw [ms_nat, ms_nat] at h1
      have e : gl o / 2 ^ v2 (gl o) = gl r / 2 ^ v2 (gl r) := by omega
      refine ⟨v2 (gl o) - v2 (gl r), ?_⟩
      have h2 := v2_split ho
      have h3 := v2_split hr
      have h4 : 2 ^ v2 (gl o) = 2 ^ v2 (gl r) * 2 ^ (v2 (gl o) - v2 (gl r)) := by rw [← Nat.pow_add]; congr 1; have := c.tw; omega
      generalize v2 (gl o) - v2 (gl r) = d at h4
      rw [e] at h2
      generalize gl r / 2 ^ v2 (gl r) = m at h2 h3
      generalize 2 ^ v2 (gl o) = x at h2 h4
      generalize 2 ^ v2 (gl r) = y at h3 h4
      rw [h2, h3, h4, Nat.mul_assoc, Nat.mul_assoc, Nat.mul_comm m]
    · intro e
      have e2 : v2 (gl o) = v2 (gl r) := by rw [e]
      have a := c.od e2
      have b := c.dbl e2
      rw [e2] at hoo
      constructor <;> omega
  · rintro ⟨⟨k, hk⟩, h2⟩
    have hv : v2 (gl o) = v2 (gl r) + k := by
      rw [hk, v2_mul hr (Nat.two_pow_pos k)]
      congr 1
      exact v2_unique (m := 1) (by rw [Nat.mul_one]) rfl
    have hm : ms o = ms r := by
      rw [ms_nat, ms_nat]
      congr 1
      rw [hk, odd_mul hr (Nat.two_pow_pos k)]
      have : v2 (2 ^ k) = k := v2_unique (m := 1) (by rw [Nat.mul_one]) rfl
      rw [this, Nat.div_self (Nat.two_pow_pos k), Nat.mul_one]
    have same : v2 (gl o) = v2 (gl r) → gl o = gl r := fun e => by
      have : k = 0 := by omega
      rw [hk, this, Nat.pow_zero, Nat.mul_one]
    refine ⟨hs, hfn_of hz, hm, by omega, fun e => ?_, fun e => ?_⟩
    · have := (h2 (same e)).1
      rw [e] at hoo
      omega
    · have := (h2 (same e)).2
      rw [e] at hoo
      omega
theorem posL_sum {f : Int → Int} (f0 : f 0 = 0) : ∀ {l : List Int}, (∀ n ∈ l, 0 ≤ n) → ((posL l).map f).sum = (l.map f).sum
  | [], _ => rfl
  | x :: l, h => by
    have ih := posL_sum f0 (l := l) fun n hn => h n (List.mem_cons_of_mem _ hn)
    unfold posL at ih ⊢
    by_cases hx : 0 < x
    · rw [List.filter_cons_of_pos (by simpa using hx), List.map_cons, List.sum_cons, List.map_cons, List.sum_cons, ih]
    · have : x = 0 := by have := h x List.mem_cons_self; omega
      subst this
      rw [List.filter_cons_of_neg (by decide), List.map_cons, List.sum_cons, f0, ih]; omega
theorem oddF_unit {u : Nat} (hu : 0 < u) (n : Int) : oddF (v2 u) ((u : Int) * n) = if n % 2 = 1 then 1 else 0 := by
  have hs := v2_split hu
  have hm := odd_rest hu
  generalize u / 2 ^ v2 u = m at hs hm
  generalize ht : v2 u = t at hs
  have e : ((u : Int) * n) % 2 ^ (t + 1) = 0 ↔ n % 2 = 0 := by
    have hp : (0 : Int) < 2 ^ t := Int.pow_pos (by decide)
    have eu : (u : Int) = 2 ^ t * (m : Int) := by
      rw [hs, Int.natCast_mul, Int.natCast_pow]; rfl
    constructor
    · intro h
      obtain ⟨c, hc⟩ := Int.dvd_of_emod_eq_zero h
      rw [eu, Int.pow_succ, Int.mul_assoc, Int.mul_assoc] at hc
      have h2 : (m : Int) * n = 2 * c := Int.eq_of_mul_eq_mul_left (by omega) hc
      have h3 : ((m : Int) * n) % 2 = 0 := by rw [h2]; omega
      rw [Int.mul_emod] at h3
      have hm' : (m : Int) % 2 = 1 := by omega
      rw [hm'] at h3
      omega
    · intro h
      obtain ⟨c, hc⟩ := Int.dvd_of_emod_eq_zero h
      refine Int.emod_eq_zero_of_dvd ⟨(m : Int) * c, ?_⟩
      rw [eu, hc, Int.pow_succ]
      grind
  unfold oddF
  by_cases h : n % 2 = 1
  · rw [if_pos h, if_neg (fun z => by have := e.mp z; omega)]
  · rw [if_neg h, if_pos (e.mpr (by omega))]
theorem oddc_unit {u : Nat} (hu : 0 < u) : ∀ {l : List Int}, (∀ n ∈ l, (u : Int) ∣ n) → ((l.map (oddF (v2 u))).sum = ((oddc (l.map fun n => n / (u : Int)) : Nat) : Int))
  | [], _ => rfl
  | x :: l, h => by
    have ih := oddc_unit hu (l := l) fun n hn => h n (List.mem_cons_of_mem _ hn)
    obtain ⟨c, hc⟩ := h x List.mem_cons_self
    have hd : x / (u : Int) = c := by rw [hc, Int.mul_ediv_cancel_left _ (by omega)]
    unfold oddc at ih ⊢
    rw [List.map_cons, List.sum_cons, ih, List.map_cons, hd, hc, oddF_unit hu]
    by_cases h1 : c % 2 = 1
    · rw [if_pos h1, List.filter_cons_of_pos (by simpa using h1), List.length_cons]; omega
    · rw [if_neg h1, List.filter_cons_of_neg (by simpa using h1)]; omega
theorem gl_unit {u : Nat} (hu : 0 < u) {l : List Int} (nl : ∀ n ∈ l, 0 ≤ n) (h : ∀ n ∈ l, (u : Int) ∣ n) : gl l = u * gl (l.map fun n => n / (u : Int)) := by
  have e : l = sc (u : Int) (l.map fun n => n / (u : Int)) := by
    unfold sc
    rw [List.map_map]
    conv => lhs; rw [← List.map_id l]
    refine List.map_congr_left fun n hn => ?_
    show n = (u : Int) * (n / (u : Int))
    rw [Int.mul_ediv_cancel' (h n hn)]
  conv => lhs; rw [e]
  rw [sc_gl (by omega) fun n hn => by
    obtain ⟨m, hm, rfl⟩ := List.mem_map.mp hn
    exact Int.ediv_nonneg (nl m hm) (by omega), Int.toNat_natCast]
theorem posL_gl (l : List Int) : gl (posL l) = gl l := gl_filter l
theorem hfn_iff {r o : List Int} (l : r.length = o.length) (no : ∀ n ∈ o, 0 ≤ n) : hfn r o = false ↔ ∀ p, r.getD p 0 = 0 → o.getD p 0 = 0 := ⟨fun h p => hfn_pos l no h p, hfn_of⟩
theorem set_at {l : List Int} {p q : Nat} {x : Int} (h : p ≠ q) : (l.set p x).getD q 0 = l.getD q 0 := by
  rw [List.getD_eq_getElem?_getD, List.getElem?_set_ne h, ← List.getD_eq_getElem?_getD]
theorem set_own {l : List Int} {p : Nat} {x : Int} (h : p < l.length) : (l.set p x).getD p 0 = x := by
  rw [List.getD_eq_getElem?_getD, List.getElem?_set_self h]; rfl
theorem due_wish {r : List Int} {ws : List (Option Int)} (l : ws.length = r.length) (nr : ∀ n ∈ r, 0 ≤ n) (nw : ∀ v, some v ∈ ws → 0 ≤ v) (hS : 0 < r.sum) (h2 : 2 ≤ (free r ws ws.length).length) (hne : ¬ Meets ws r) :
    (wishF r ws).isSome = (if hfn r (wA ws) = true then false
      else if r.sum - (wA ws).sum < 0 ∨ (r.sum - (wA ws).sum) % (gl r : Int) ≠ 0 ∨ (∃ n ∈ posL (wA ws), n % (gl r : Int) ≠ 0) then false
      else dueU ((posL (wA ws)).map fun n => n / (gl r : Int)) ((r.sum - (wA ws).sum) / (gl r : Int)) (od r)) := by
  have hr := pos_gl nr hS
  have nA := wA_nn nw
  have lA : r.length = (wA ws).length := by rw [wA_len, l]
  generalize hleft : r.sum - (wA ws).sum = left
  have frne : free r ws ws.length ≠ [] := fun z => by rw [z] at h2; simp at h2
  by_cases hneg : left < 0
  · have : fillF r ws = none := by unfold fillF; rw [if_pos (.inl (by omega))]
    have e : wishF r ws = none := by unfold wishF; rw [this]
    rw [e]
    split
    · rfl
    · rw [if_pos (.inl hneg)]; rfl
  obtain ⟨o, ho⟩ : ∃ o, fillF r ws = some o := by
    unfold fillF
    rw [if_neg (show ¬ _ from fun z => z.elim (by omega) fun z => frne z.2), if_neg frne]
    split <;> exact ⟨_, rfl⟩
  have F := fill_form ho
  have no := F.nn nw
  have hsum := F.sum
  have lo : r.length = o.length := by rw [F.meets.1, l]
  have hro : r ≠ o := fun z => hne (z ▸ F.meets)
  have ew : (wishF r ws).isSome = true ↔ Cl r o := by
    unfold wishF
    rw [ho]
    show (if brkT r o = [] then some o else none).isSome = true ↔ _
    have eb : brkT r o = [] ↔ Cl r o := by
      unfold brkT
      rw [if_neg hro, if_neg (fun z => z lo)]
      exact cl_iff
    by_cases hb : brkT r o = []
    · rw [if_pos hb]; exact ⟨fun _ => eb.mp hb, fun _ => rfl⟩
    · rw [if_neg hb]; exact ⟨fun z => (by cases z), fun z => absurd (eb.mpr z) hb⟩
  have no_of : ¬ Cl r o → (wishF r ws).isSome = false := fun z => by
    cases h : (wishF r ws).isSome with
    | false => rfl
    | true => exact absurd (ew.mp h) z
  -- at a place where nobody has anything the filled row is the wish
  have atz : ∀ p, r.getD p 0 = 0 → o.getD p 0 = (wA ws).getD p 0 := fun p hp => by
    cases F with
    | none => rfl
    | one q _ h0 => exact set_at fun z => by rw [z] at h0; omega
    | two q q2 _ _ h0 h02 => rw [set_at fun z => by rw [z] at h0; omega, set_at fun z => by rw [z] at h02; omega]
  by_cases hno : hfn r (wA ws) = true
  · rw [if_pos hno]
    refine no_of fun c => ?_
    have h1 := (hfn_iff lo no).mp c.hf
    have h3 : hfn r (wA ws) = false := (hfn_iff lA nA).mpr fun p hp => by rw [← atz p hp]; exact h1 p hp
    rw [h3] at hno; cases hno
  rw [if_neg hno]
  have hno' : hfn r (wA ws) = false := by cases h : hfn r (wA ws) with | false => rfl | true => exact absurd h hno
  have hzA := (hfn_iff lA nA).mp hno'
  have hz : ∀ p, r.getD p 0 = 0 → o.getD p 0 = 0 := fun p hp => by rw [atz p hp]; exact hzA p hp
  have hgo := pos_gl no (by omega)
  have key := cl_unit nr no hr hgo hsum lo hz
  -- the parts of the filled row
  have parts : (∀ n ∈ o, (gl r : Int) ∣ n) → (∀ n ∈ wA ws, (gl r : Int) ∣ n) ∧ (gl r : Int) ∣ left := fun dv => by
    have dA : ∀ n ∈ wA ws, (gl r : Int) ∣ n := wA_dvd F.meets dv
    refine ⟨dA, ?_⟩
    have h1 : (gl r : Int) ∣ o.sum := sum_dvd dv
    have h2 : (gl r : Int) ∣ (wA ws).sum := sum_dvd dA
    rw [← hleft, ← hsum]
    exact Int.dvd_sub h1 h2
  by_cases hdv : left < 0 ∨ left % (gl r : Int) ≠ 0 ∨ ∃ n ∈ posL (wA ws), n % (gl r : Int) ≠ 0
  · rw [if_pos hdv]
    refine no_of fun c => ?_
    obtain ⟨⟨k, hk⟩, _⟩ := key.mp c
    have dv : ∀ n ∈ o, (gl r : Int) ∣ n := fun n hn => Int.dvd_trans (Int.natCast_dvd_natCast.mpr ⟨2 ^ k, hk⟩) (gl_dvdI (no n hn) hn)
    obtain ⟨dA, dl⟩ := parts dv
    rcases hdv with h | h | ⟨n, hn, h⟩
    · exact hneg h
    · exact h (Int.emod_eq_zero_of_dvd dl)
    · exact h (Int.emod_eq_zero_of_dvd (dA n (List.mem_filter.mp hn).1))
  rw [if_neg hdv]
  have dl : (gl r : Int) ∣ left := Int.dvd_of_emod_eq_zero (Decidable.of_not_not fun z => hdv (.inr (.inl z)))
  have dA : ∀ n ∈ wA ws, (gl r : Int) ∣ n := fun n hn => by
    by_cases hp : 0 < n
    · exact Int.dvd_of_emod_eq_zero (Decidable.of_not_not fun z => hdv (.inr (.inr ⟨n, List.mem_filter.mpr ⟨hn, decide_eq_true hp⟩, z⟩)))
    · have : n = 0 := by have := nA n hn; omega
      rw [this]; exact ⟨0, by simp⟩
  have dP : ∀ n ∈ posL (wA ws), (gl r : Int) ∣ n := fun n hn => dA n (List.mem_filter.mp hn).1
  have nP : ∀ n ∈ posL (wA ws), 0 ≤ n := fun n hn => nA n (List.mem_filter.mp hn).1
  have hodr := od_sum nr
  generalize hs : (posL (wA ws)).map (fun n => n / (gl r : Int)) = s
  have eodd : ((wA ws).map (oddF (v2 (gl r)))).sum = ((oddc s : Nat) : Int) := by
    rw [← posL_sum (oddF_zero _) nA, oddc_unit hr dP, hs]
  have ecnt : ((wA ws).map posF).sum = ((s.length : Nat) : Int) := by
    rw [← hs, List.length_map, ← pos_sum]; rfl
  have egl : gl (wA ws) = gl r * gl s := by rw [← posL_gl, gl_unit hr nP dP, hs]
  obtain ⟨c, hc⟩ := dl
  have ec : left / (gl r : Int) = c := by rw [hc, Int.mul_ediv_cancel_left _ (by omega)]
  rw [ec]
  have c0 : 0 ≤ c := Int.not_lt.mp fun z => by
    have := Int.mul_lt_mul_of_pos_left z (show (0 : Int) < (gl r : Int) by omega)
    omega
  have olc : oddF (v2 (gl r)) left = if c % 2 = 1 then 1 else 0 := by rw [hc, oddF_unit hr]
  have hoddn : 0 ≤ (r.map (oddF (v2 (gl r)))).sum := by omega
  -- where twice the unit is among them
  have even : 2 * (gl r : Int) ∈ o → (∀ n ∈ o, (gl r : Int) ∣ n) → (Cl r o ↔ (o.map (oddF (v2 (gl r)))).sum ≤ (r.map (oddF (v2 (gl r)))).sum) := fun m2 dv => by
    have hb := gl_between no dv m2 hr
    rw [key]
    have hlt : (o.map (oddF (v2 (gl r)))).sum < (o.map posF).sum := by
      refine sum_lt_of (fun n hn => oddF_le _ (no n hn)) ⟨_, m2, ?_⟩
      rw [oddF_two rfl]; unfold posF; rw [if_pos (by omega)]; decide
    constructor
    · rintro ⟨_, h⟩
      rcases hb with e | e
      · exact (h e).1
      · have : (o.map (oddF (v2 (gl r)))).sum = 0 := sum_zero fun x hx => by
          obtain ⟨n, hn, rfl⟩ := List.mem_map.mp hx
          refine oddF_dvd (pow_dvdI (g := gl o) ?_ (gl_dvdI (no n hn) hn))
          rw [e, Nat.pow_succ, Nat.mul_comm]
          exact Nat.mul_dvd_mul_left 2 (pow_v2_dvd _)
        omega
    · intro h
      refine ⟨?_, fun _ => ⟨h, hlt⟩⟩
      rcases hb with e | e
      · exact ⟨0, by rw [e, Nat.pow_zero, Nat.mul_one]⟩
      · exact ⟨1, by rw [e, Nat.pow_one, Nat.mul_comm]⟩
  have dvset : ∀ {l : List Int} {p : Nat} {x : Int}, (∀ n ∈ l, (gl r : Int) ∣ n) → (gl r : Int) ∣ x → ∀ n ∈ l.set p x, (gl r : Int) ∣ n := fun hl hx n hn => by
    rcases List.mem_or_eq_of_mem_set hn with z | z
    · exact hl n z
    · rw [z]; exact hx
  have fin : ∀ b : Bool, (Cl r o ↔ b = true) → (wishF r ws).isSome = b := fun b h => bool_iff (ew.trans h)
  refine fin _ ?_
  have duE : 0 < c → c % 2 = 0 → (dueU s c (od r) = true ↔ oddc s ≤ od r) := fun h1 h2 => by
    unfold dueU
    by_cases h3 : oddc s = 0
    · rw [if_pos ⟨h3, h2, .inl h1⟩]; exact ⟨fun _ => by omega, fun _ => rfl⟩
    · rw [if_neg (fun z => h3 z.1), if_neg (by omega), if_neg (by omega), Bool.and_eq_true, decide_eq_true_eq, decide_eq_true_eq]
      exact ⟨fun z => z.2, fun z => ⟨by omega, z⟩⟩
  cases F with
  | none h _ => exact absurd h frne
  | two p q hp hq hp0 hq0 hpq hl2 =>
    rw [hleft] at hl2 even ⊢
    have hq' : q < (wA ws).length := by rw [wA_len]; exact (List.getElem?_eq_some_iff.mp hq).1
    have hsm : ((((wA ws).set q (2 * (gl r : Int))).set p (left - 2 * (gl r : Int))).map (oddF (v2 (gl r)))).sum = ((oddc s : Nat) : Int) + (if c % 2 = 1 then 1 else 0) := by
      rw [sum_setF _ (y := 0) (by rw [List.getElem?_set_ne hpq.symm]; exact wA_none hp), sum_setF _ (wA_none hq), oddF_zero, oddF_two rfl, oddF_sub rfl, eodd, olc]
      omega
    rw [even (List.mem_of_getElem? (i := q) (by rw [List.getElem?_set_ne hpq, List.getElem?_set_self hq'])) (dvset (dvset dA ⟨2, by rw [Int.mul_comm]⟩) (Int.dvd_sub ⟨c, hc⟩ ⟨2, by rw [Int.mul_comm]⟩)), hsm, ← hodr]
    have c3 : 2 < c := Int.lt_of_not_ge fun z => by
      have := Int.mul_le_mul_of_nonneg_left z (show (0 : Int) ≤ (gl r : Int) by omega)
      omega
    by_cases h1 : c % 2 = 1
    · unfold dueU
      rw [if_pos h1, if_neg (fun z => by omega), if_neg (by omega), if_pos h1, Bool.and_eq_true, Bool.or_eq_true, decide_eq_true_eq, decide_eq_true_eq]
      exact ⟨fun z => ⟨by omega, .inl (by omega)⟩, fun z => by omega⟩
    · rw [if_neg h1, duE (by omega) (by omega)]
      omega
  | one p hp h0 hl0 hh hk =>
    rw [hleft] at hk even key no hgo lo ⊢
    have hp' : p < (wA ws).length := by rw [wA_len]; exact (List.getElem?_eq_some_iff.mp hp).1
    have hle : left ≤ 2 * (gl r : Int) := hk.resolve_left (by omega)
    have c2 : c ≤ 2 := Int.le_of_mul_le_mul_left (a := (gl r : Int)) (by omega) (by omega)
    have hmem : left ∈ (wA ws).set p left := List.mem_of_getElem? (List.getElem?_set_self hp')
    have dv : ∀ n ∈ (wA ws).set p left, (gl r : Int) ∣ n := dvset dA ⟨c, hc⟩
    have hsm : (((wA ws).set p left).map (oddF (v2 (gl r)))).sum = ((oddc s : Nat) : Int) + (if c % 2 = 1 then 1 else 0) := by
      rw [sum_setF _ (wA_none hp), oddF_zero, eodd, olc]; omega
    have hcase : c = 2 ∨ c = 1 ∨ c = 0 := by omega
    rcases hcase with rfl | rfl | rfl
    · rw [even (by rw [show 2 * (gl r : Int) = left by omega]; exact hmem) dv, hsm, ← hodr, duE (by decide) (by decide), if_neg (by decide)]
      omega
    · have eu : left = (gl r : Int) := by omega
      have hg : gl ((wA ws).set p left) = gl r := by
        refine Nat.dvd_antisymm ?_ (all_dvd no dv)
        have h5 := gl_dvd hmem
        have h6 : left.toNat = gl r := by rw [eu]; exact Int.toNat_natCast _
        rw [h6] at h5; exact h5
      have hps : (((wA ws).set p left).map posF).sum = ((s.length : Nat) : Int) + 1 := by
        rw [sum_setF posF (wA_none hp), ecnt, eu]
        have h1 : posF (gl r : Int) = 1 := by unfold posF; rw [if_pos (by omega)]
        have h2 : posF 0 = 0 := rfl
        omega
      rw [if_pos (show (1 : Int) % 2 = 1 by decide)] at hsm
      have ed : dueU s 1 (od r) = (decide (oddc s + 1 ≤ od r) && (decide ((1 : Int) < 1) || decide (oddc s < s.length))) := by
        unfold dueU
        rw [if_neg (show ¬ _ from fun z => absurd z.2.1 (by decide)), if_neg (show ¬ (1 : Int) = 0 by decide), if_pos (show (1 : Int) % 2 = 1 by decide)]
      rw [key, hsm, hps, ← hodr, ed, Bool.and_eq_true, Bool.or_eq_true, decide_eq_true_eq, decide_eq_true_eq, decide_eq_true_eq]
      constructor
      · rintro ⟨_, h⟩
        have := h hg
        exact ⟨by omega, .inr (by omega)⟩
      · rintro ⟨h1, h3⟩
        exact ⟨⟨0, by rw [hg, Nat.pow_zero, Nat.mul_one]⟩, fun _ => ⟨by omega, by omega⟩⟩
    · have e0 : left = 0 := by omega
      have eA : (wA ws).set p left = wA ws := by
        refine ext0 (List.length_set ..) fun q _ => ?_
        by_cases hqp : p = q
        · subst hqp
          rw [set_own hp', e0, List.getD_eq_getElem?_getD, wA_none hp]; rfl
        · exact set_at hqp
      rw [eA] at key hgo
      have hgs : 0 < gl s := by
        rcases Nat.eq_zero_or_pos (gl s) with z | z
        · rw [egl, z, Nat.mul_zero] at hgo; omega
        · exact z
      have hpow : (∃ k, gl (wA ws) = gl r * 2 ^ k) ↔ isPow (gl s) = true := by
        rw [isPow_iff hgs]
        constructor
        · rintro ⟨k, hk⟩
          rw [egl] at hk
          exact ⟨k, Nat.eq_of_mul_eq_mul_left hr hk⟩
        · rintro ⟨k, hk⟩
          exact ⟨k, by rw [egl, hk]⟩
      -- without an odd one the unit is more
      have hodd0 : oddc s = 0 → gl (wA ws) ≠ gl r := fun h e => by
        rw [egl] at e
        have e1 : gl s = 1 := Nat.eq_of_mul_eq_mul_left hr (by rw [e, Nat.mul_one])
        have : 2 ∣ gl s := gl_all fun n hn => by
          unfold oddc at h
          have h3 := List.filter_eq_nil_iff.mp (List.eq_nil_of_length_eq_zero h) n hn
          rw [decide_eq_true_eq] at h3
          have h4 : 0 ≤ n := by
            rw [← hs] at hn
            obtain ⟨m, hm, rfl⟩ := List.mem_map.mp hn
            exact Int.ediv_nonneg (nP m hm) (by omega)
          omega
        omega
      have hodd1 : 0 < oddc s → isPow (gl s) = true → gl (wA ws) = gl r := fun h hp => by
        obtain ⟨k, hk⟩ := (isPow_iff hgs).mp hp
        rcases Nat.eq_zero_or_pos k with z | z
        · rw [egl, hk, z, Nat.pow_zero, Nat.mul_one]
        · exfalso
          have h2d : 2 ∣ gl s := by rw [hk]; exact ⟨2 ^ (k - 1), by rw [← Nat.pow_succ']; congr 1; omega⟩
          unfold oddc at h
          obtain ⟨n, hn⟩ := List.exists_mem_of_length_pos h
          obtain ⟨hn1, hn2⟩ := List.mem_filter.mp hn
          have hn2' := of_decide_eq_true hn2
          have := Nat.dvd_trans h2d (gl_dvd hn1)
          have h4 : 0 ≤ n := by
            rw [← hs] at hn1
            obtain ⟨m, hm, rfl⟩ := List.mem_map.mp hn1
            exact Int.ediv_nonneg (nP m hm) (by omega)
          omega
      rw [eA, key, hpow]
      rw [eA, if_neg (show ¬ (0 : Int) % 2 = 1 by decide)] at hsm
      rw [hsm, ecnt, ← hodr]
      unfold dueU
      by_cases ho0 : oddc s = 0
      · by_cases hpw : isPow (gl s) = true
        · rw [if_pos ⟨ho0, by decide, .inr hpw⟩]
          exact ⟨fun _ => rfl, fun _ => ⟨hpw, fun z => absurd z (hodd0 ho0)⟩⟩
        · rw [if_neg (fun z => z.2.2.elim (fun y => absurd y (by decide)) hpw), if_pos rfl]
          have : isPow (gl s) = false := by cases h : isPow (gl s) with | false => rfl | true => exact absurd h hpw
          rw [this]
          exact ⟨fun z => absurd z.1 (by decide), fun z => absurd z (by simp)⟩
      · rw [if_neg (fun z => ho0 z.1), if_pos rfl, Bool.and_eq_true, Bool.and_eq_true, Bool.and_eq_true, decide_eq_true_eq, decide_eq_true_eq, decide_eq_true_eq]
        constructor
        · rintro ⟨h1, h3⟩
          have := h3 (hodd1 (by omega) h1)
          exact ⟨⟨h1, by omega, by omega⟩, by omega⟩
        · rintro ⟨⟨h1, h3, h4⟩, h5⟩
          exact ⟨h1, fun _ => ⟨by omega, by omega⟩⟩
end MG

/-! MG: parts of tuples, texts of rows or none -/
namespace MG
open PySem PySem.Spec PyProof.Rows L2
theorem cut_allV {xs : List V} {lo hi : Option Int} (h : HT.sIx xs.length 0 lo = 0 ∧ HT.sIx xs.length xs.length hi = xs.length) : cutV xs lo hi = xs := by
  unfold cutV
  rw [h.1, h.2, List.drop_zero, Nat.sub_zero, List.take_length]
theorem slV {K : PySem.W.Frag} {H : Hp} {Q : VK} {a : Addr} {xs : List V} {lo hi : Option Int} (e : H a = some (.tup xs))
    (q : ∀ p H', Same H H' → (p = a ∨ H p = none) → H' p = some (.tup (cutV xs lo hi)) → Q (.ref p) H') : rSlA K (.ref a) lo hi H Q := by
  refine ⟨a, xs, rfl, SqT.of e, fun h => ?_, fun h p np => ?_⟩
  · exact q a H (Same.refl H) (.inl rfl) (by rw [cut_allV h]; exact e)
  · exact q p _ (same_updG np) (.inr np) upd_same
theorem catV {K : PySem.W.Frag} {H : Hp} {Q : VK} {a b : Addr} {xs ys : List V} (e : H a = some (.tup xs)) (e2 : H b = some (.tup ys)) (hz : xs.length + ys.length ≤ sizeLine)
    (q : ∀ p H', Same H H' → (p = a ∨ p = b ∨ H p = none) → H' p = some (.tup (xs ++ ys)) → Q (.ref p) H') : rCatA K (.ref a) (.ref b) H Q := by
  refine ⟨a, b, xs, ys, rfl, rfl, SqT.of e, SqT.of e2, hz, fun h => ?_, fun h1 h2 => ?_, fun h1 h2 p np => ?_⟩
  · subst h
    exact q b H (Same.refl H) (.inr (.inl rfl)) e2
  · subst h2
    exact q a H (Same.refl H) (.inl rfl) (by rw [List.append_nil]; exact e)
  · exact q p _ (same_updG np) (.inr (.inr np)) upd_same
theorem repV {K : PySem.W.Frag} {H : Hp} {Q : VK} {a : Addr} {x : V} {k : Nat} (e : H a = some (.tup [x])) (hk : k ≤ 1000)
    (q : ∀ p H', Same H H' → (p = a ∨ H p = none) → H' p = some (.tup (List.replicate k x)) → Q (.ref p) H') : rRepA K (.ref a) (.int (k : Int)) H Q := by
  refine ⟨a, k, [x], rfl, rfl, SqT.of e, List.cons_ne_nil _ _, by omega, by omega, by show 1 ≤ 1000; decide, fun h => ?_, fun h p np => ?_⟩
  · have : k = 1 := by omega
    subst this
    exact q a H (Same.refl H) (.inl rfl) e
  · refine q p _ (same_updG np) (.inr np) ?_
    rw [upd_same, Int.toNat_natCast]
    congr 2
    induction k with
    | zero => rfl
    | succ k ih =>
      rw [List.replicate_succ, List.flatten_cons, List.replicate_succ]
      congr 1
      clear q h
      clear ih
      induction k with
      | zero => rfl
      | succ k ih => rw [List.replicate_succ, List.flatten_cons, ih (by omega), List.replicate_succ]; rfl
theorem cut_toV {xs : List V} {n : Nat} (h : n ≤ xs.length) : cutV xs none (some (n : Int)) = xs.take n := by
  unfold cutV
  rw [HT.sIx_none, HT.sIx_nat, Nat.min_eq_left h, Nat.sub_zero, List.drop_zero]
theorem cut_fromV {xs : List V} {n : Nat} (h : n ≤ xs.length) : cutV xs (some (n : Int)) none = xs.drop n := by
  unfold cutV
  rw [HT.sIx_none, HT.sIx_nat, Nat.min_eq_left h]
  exact List.take_of_length_le (by rw [List.length_drop]; exact Nat.le_refl _)
theorem putV {xs : List V} {p : Nat} (v : V) (h : p < xs.length) : xs.take p ++ [v] ++ xs.drop (p + 1) = xs.set p v := by
  rw [List.append_assoc]
  exact (List.set_eq_take_append_cons_drop ..).symm ▸ (by rw [if_pos h]; rfl)
/-- a row or none, as data -/
def oD : Option (List Int) → PyData
  | none => .none
  | some o => rowDt o
theorem tup_ne_none (ds : List PyData) : (PyData.tuple ds).shown ≠ ("None" : Str) := by
  intro h
  have e : (PyData.tuple ds).shown = tupleText (PyData.shownAll ds) := rfl
  rw [e] at h
  unfold tupleText at h
  have h0 := congrArg (fun z : Str => z.cps[0]?) h
  have : (("(" : Str) ++ Str.join ", " (PyData.shownAll ds) ++ ((if (PyData.shownAll ds).length == 1 then ",)" else ")" : String) : Str)).cps[0]? = some 40 := by
    show ((("(" : Str).cps ++ (Str.join ", " (PyData.shownAll ds)).cps) ++ _)[0]? = some 40
    rw [Array.getElem?_append_left (by rw [Array.size_append]; show 0 < 1 + _; omega), Array.getElem?_append_left (by show 0 < 1; decide)]
    decide +kernel
  rw [this] at h0
  revert h0
  decide +kernel
theorem oD_none (o : Option (List Int)) : (!decide (V.str (oD o).shown = V.str "None")) = o.isSome := by
  cases o with
  | none => rw [decide_eq_true (by show V.str (PyData.none).shown = V.str "None"; rfl)]; rfl
  | some r =>
    show (!decide (V.str (PyData.tuple (r.map PyData.int)).shown = V.str "None")) = true
    rw [decide_eq_false (fun z => tup_ne_none (r.map PyData.int) (V.str.inj z))]; rfl
theorem Sh.oD {o : Option (List Int)} (h : ∀ r, o = some r → (∀ n ∈ r, 0 ≤ n ∧ n < 2 ^ 250) ∧ r.length ≤ 40) : Sh 1 (40 * 303 + 3) (MG.oD o) := by
  cases o with
  | none => exact Sh.none.le (by decide) (by decide)
  | some r => exact Sh.row (h r rfl).1 (h r rfl).2
theorem map_wV (o : List Int) : (o.map some).map wV = o.map V.int := by rw [List.map_map]; rfl
end MG

/-! MG: meetings; xs[i] -= e -/
namespace MG
open PySem PySem.Spec PyProof.Rows L2
def rGetL (K : PySem.W.Frag) : V → V → Hp → VK → Prop := fun x y H Q => ∃ (p : Addr) (xs : List V) (j : Nat) (v : V), x = .ref p ∧ y = .int (j : Int) ∧ SqL K H p xs ∧ xs[j]? = some v ∧ Q v H
theorem get_list {X : Cx} : PGet X (rGetL X.K) := by
  intro pins s σ H o i ov iv Q I ro ri h
  obtain ⟨p, xs, j, v, rfl, rfl, hq, hv, q⟩ := h
  cases ro
  obtain ⟨t, rfl⟩ := ri
  obtain ⟨its, r, pl, hz⟩ := I.list hq
  obtain ⟨u, hu, ru⟩ := r.get hv
  have hj : j < xs.length := (List.getElem?_eq_some_iff.mp hv).1
  have hl := r.length
  have hn := line63
  exact wpAny_getItem_list pl.isList (by omega) (by omega) (by simpa using hu) ⟨v, H, I, ru, q⟩
/-- the places of those who have something in all rows -/
def plF (n : Nat) (R : List (List Int)) : List Int := ((List.range n).filter fun j => R.all fun r => decide (0 < r.getD j 0)).map fun (j : Nat) => (j : Int)
def maxU : List (List Int) → Nat
  | [] => 0
  | r :: R => max (gl r) (maxU R)
def behF (n : Nat) (S : Int) (U : Nat) : List Int → List Int
  | [] => List.replicate n 0
  | [p] => (List.replicate n 0).set p.toNat S
  | p :: q :: _ => (((List.replicate n 0).set p.toNat S).set q.toNat (2 * (U : Int))).set p.toNat (S - 2 * (U : Int))
def unlike (n : Nat) (S : Int) (R : List (List Int)) : Bool := R.any fun r => decide (r.length ≠ n) || decide (r.sum ≠ S)
def meetF (n : Nat) (S : Int) (R : List (List Int)) : Option (List Int) :=
  if unlike n S R = true then none
  else if plF n R = [] then none
  else if ∀ r ∈ R, brkT r (behF n S (maxU R) (plF n R)) = [] then some (behF n S (maxU R) (plF n R)) else none
theorem pl_mem {n : Nat} {R : List (List Int)} {x : Int} (h : x ∈ plF n R) : ∃ p : Nat, x = p ∧ p < n ∧ ∀ r ∈ R, 0 < r.getD p 0 := by
  obtain ⟨p, hp, rfl⟩ := List.mem_map.mp h
  obtain ⟨h1, h2⟩ := List.mem_filter.mp hp
  refine ⟨p, rfl, List.mem_range.mp h1, fun r hr => ?_⟩
  exact of_decide_eq_true (List.all_eq_true.mp h2 r hr)
theorem pl_nodup (n : Nat) (R : List (List Int)) : (plF n R).Nodup := by
  unfold plF
  refine List.Pairwise.map _ ?_ ((List.nodup_range).filter _)
  intro a b h z
  exact h (by omega)
theorem max_ge : ∀ {R : List (List Int)} {r : List Int}, r ∈ R → gl r ≤ maxU R
  | x :: R, r, h => by
    rcases List.mem_cons.mp h with rfl | h
    · exact Nat.le_max_left _ _
    · exact Nat.le_trans (max_ge h) (Nat.le_max_right _ _)
theorem max_in : ∀ {R : List (List Int)}, R ≠ [] → ∃ r ∈ R, maxU R = gl r
  | [r], _ => ⟨r, List.mem_cons_self, by unfold maxU maxU; omega⟩
  | r :: r2 :: R, _ => by
    obtain ⟨x, hx, e⟩ := max_in (R := r2 :: R) (by simp)
    by_cases h : gl r ≤ maxU (r2 :: R)
    · exact ⟨x, List.mem_cons_of_mem _ hx, by show max _ _ = _; rw [Nat.max_eq_right h, e]⟩
    · exact ⟨r, List.mem_cons_self, by show max _ _ = _; exact Nat.max_eq_left (by omega)⟩
theorem three_sum {r : List Int} (nr : ∀ n ∈ r, 0 ≤ n) (h : 3 ≤ (hold r r.length).length) : 3 * (gl r : Int) ≤ r.sum := by
  have h1 : ∀ n ∈ r, (gl r : Int) * posF n ≤ n := fun n hn => by
    unfold posF
    by_cases h0 : 0 < n
    · rw [if_pos h0, Int.mul_one]; exact gl_le hn h0
    · rw [if_neg h0, Int.mul_zero]; exact nr n hn
  have h2 : (r.map fun n => (gl r : Int) * posF n).sum ≤ (r.map fun n => n).sum := sum_le_of (l := r) h1
  rw [map_id_sum] at h2
  have h3 : (r.map fun n => (gl r : Int) * posF n).sum = (gl r : Int) * (r.map posF).sum := by
    have := sc_sum (gl r : Int) (r.map posF)
    unfold sc at this
    rw [List.map_map] at this
    exact this
  have h4 := hold_pos r
  have h5 : (gl r : Int) * 3 ≤ (gl r : Int) * (r.map posF).sum := Int.mul_le_mul_of_nonneg_left (by omega) (by omega)
  omega
theorem od_pos {r : List Int} (nr : ∀ n ∈ r, 0 ≤ n) (hr : 0 < gl r) : 1 ≤ (r.map (oddF (v2 (gl r)))).sum := by
  apply Classical.byContradiction
  intro h
  have nn : ∀ x ∈ r.map (oddF (v2 (gl r))), 0 ≤ x := fun x hx => by obtain ⟨n, _, rfl⟩ := List.mem_map.mp hx; exact oddF_nn _ n
  have h0 := sum_nn nn
  have hz : (r.map (oddF (v2 (gl r)))).sum = 0 := by omega
  have hd : 2 ^ (v2 (gl r) + 1) ∣ gl r := gl_all fun n hn => by
    have h1 := mem_le_sumG nn _ (List.mem_map.mpr ⟨n, hn, rfl⟩)
    have h2 := oddF_nn (v2 (gl r)) n
    have h3 : oddF (v2 (gl r)) n = 0 := by omega
    unfold oddF at h3
    have h4 : n % 2 ^ (v2 (gl r) + 1) = 0 := by
      by_cases z : n % 2 ^ (v2 (gl r) + 1) = 0
      · exact z
      · rw [if_neg z] at h3; cases h3
    have h5 := Int.dvd_of_emod_eq_zero h4
    refine Int.natCast_dvd_natCast.mp ?_
    rw [Int.toNat_of_nonneg (nr n hn), Int.natCast_pow]
    exact h5
  have := (pow_dvd_iff hr).mp hd
  omega
theorem ms_pow {g S : Nat} (hg : 0 < g) (hS : 0 < S) (hd : g ∣ S) : (∃ k, S = g * 2 ^ k) ↔ S / 2 ^ v2 S = g / 2 ^ v2 g := by
  constructor
  · rintro ⟨k, rfl⟩
    rw [odd_mul hg (Nat.two_pow_pos k)]
    have : v2 (2 ^ k) = k := v2_unique (m := 1) (by rw [Nat.mul_one]) rfl
    rw [this, Nat.div_self (Nat.two_pow_pos k), Nat.mul_one]
  · intro e
    obtain ⟨c, rfl⟩ := hd
    have hc : 0 < c := Nat.pos_of_ne_zero fun z => by rw [z, Nat.mul_zero] at hS; omega
    rw [odd_mul hg hc] at e
    have hgo : 0 < g / 2 ^ v2 g := by have := odd_rest hg; omega
    have h1 : c / 2 ^ v2 c = 1 := Nat.eq_of_mul_eq_mul_left hgo (by rw [e, Nat.mul_one])
    refine ⟨v2 c, ?_⟩
    have h2 := v2_split hc
    rw [h1, Nat.mul_one] at h2
    rw [← h2]
theorem rep_at (n q : Nat) : (List.replicate n (0 : Int)).getD q 0 = 0 := by
  rw [List.getD_eq_getElem?_getD]
  by_cases h : q < n
  · rw [List.getElem?_replicate, if_pos h]; rfl
  · rw [List.getElem?_replicate, if_neg h]; rfl
theorem rep_map_sum (f : Int → Int) (f0 : f 0 = 0) (n : Nat) : ((List.replicate n (0 : Int)).map f).sum = 0 := sum_zero fun x hx => by
  obtain ⟨y, hy, rfl⟩ := List.mem_map.mp hx
  rw [List.eq_of_mem_replicate hy, f0]
theorem rep_get {n p : Nat} (h : p < n) : (List.replicate n (0 : Int))[p]? = some 0 := by rw [List.getElem?_replicate, if_pos h]
/-- what is due of rows that are to meet -/
theorem meet_due {n : Nat} {S : Int} {R : List (List Int)} {r0 : List Int} (h0 : r0 ∈ R) (nn : ∀ r ∈ R, ∀ x ∈ r, 0 ≤ x) (h3 : ∀ r ∈ R, 3 ≤ (hold r r.length).length) (hS : 0 < S) :
    (meetF n S R).isSome = true ↔ unlike n S R = false ∧ (∀ r ∈ R, ms r = ms r0) ∧ (2 ≤ (plF n R).length ∨ ((plF n R).length = 1 ∧ S.toNat / 2 ^ v2 S.toNat = gl r0 / 2 ^ v2 (gl r0))) := by
  unfold meetF
  cases hu : unlike n S R with
  | true => rw [if_pos rfl]; exact ⟨fun z => (by cases z), fun z => (by cases z.1)⟩
  | false =>
  rw [if_neg Bool.false_ne_true]
  have like : ∀ r ∈ R, r.length = n ∧ r.sum = S := fun r hr => by
    unfold unlike at hu
    have := List.any_eq_false.mp hu r hr
    simp only [Bool.or_eq_true, decide_eq_true_eq, not_or, ne_eq, Decidable.not_not] at this
    exact this
  have glp : ∀ r ∈ R, 0 < gl r := fun r hr => pos_gl (nn r hr) (by rw [(like r hr).2]; exact hS)
  have gld : ∀ r ∈ R, (gl r : Int) ∣ S := fun r hr => by
    rw [← (like r hr).2]
    exact sum_dvd fun x hx => gl_dvdI (nn r hr x hx) hx
  have gldN : ∀ r ∈ R, gl r ∣ S.toNat := fun r hr => by
    have := gld r hr
    refine Int.natCast_dvd_natCast.mp ?_
    rwa [Int.toNat_of_nonneg (by omega)]
  have three : ∀ r ∈ R, 3 * (gl r : Int) ≤ S := fun r hr => by rw [← (like r hr).2]; exact three_sum (nn r hr) (h3 r hr)
  -- all come to one row: the measures are alike
  have alike : ∀ o : List Int, (∀ r ∈ R, brkT r o = []) → (∀ r ∈ R, r ≠ o) → ∀ r ∈ R, ms r = ms r0 := fun o hb hne r hr => by
    have e : ∀ x ∈ R, ms o = ms x := fun x hx => by
      have h := hb x hx
      unfold brkT at h
      rw [if_neg (hne x hx)] at h
      split at h
      · cases h
      · exact (cl_iff.mp h).ms
    rw [← e r hr, ← e r0 h0]
  have fin : ∀ o : List Int, (if ∀ r ∈ R, brkT r o = [] then some o else none).isSome = true ↔ ∀ r ∈ R, brkT r o = [] := fun o => by
    by_cases h : ∀ r ∈ R, brkT r o = []
    · rw [if_pos h]; exact ⟨fun _ => h, fun _ => rfl⟩
    · rw [if_neg h]; exact ⟨fun z => (by cases z), fun z => absurd z h⟩
  match hpl : plF n R with
  | [] => rw [if_pos rfl]; exact ⟨fun z => (by cases z), fun z => (by rcases z.2.2 with h | h <;> simp at h)⟩
  | [x] =>
    obtain ⟨p, rfl, hp, hpos⟩ := pl_mem (n := n) (R := R) (x := x) (by rw [hpl]; exact List.mem_cons_self)
    rw [if_neg (by simp), fin]
    show (∀ r ∈ R, brkT r ((List.replicate n 0).set (p : Int).toNat S) = []) ↔ _
    rw [Int.toNat_natCast]
    generalize ho : (List.replicate n (0 : Int)).set p S = o
    have no : ∀ x ∈ o, 0 ≤ x := fun x hx => by
      rw [← ho] at hx
      rcases List.mem_or_eq_of_mem_set hx with z | z
      · rw [List.eq_of_mem_replicate z]; omega
      · omega
    have lo : o.length = n := by rw [← ho, List.length_set, List.length_replicate]
    have smf : ∀ f : Int → Int, f 0 = 0 → (o.map f).sum = f S := fun f f0 => by
      rw [← ho, sum_setF f (rep_get hp), rep_map_sum f f0, f0]; omega
    have so : o.sum = S := by have := smf (fun n => n) rfl; rwa [map_id_sum] at this
    have go : gl o = S.toNat := by
      have h1 : gl o ∣ S.toNat := gl_dvd (n := S) (by rw [← ho]; exact List.mem_of_getElem? (List.getElem?_set_self (by rw [List.length_replicate]; exact hp)))
      have h2 : S.toNat ∣ gl o := gl_all fun x hx => by
        rw [← ho] at hx
        rcases List.mem_or_eq_of_mem_set hx with z | z
        · rw [List.eq_of_mem_replicate z]; exact ⟨0, by simp⟩
        · rw [z]; exact Nat.dvd_refl _
      exact Nat.dvd_antisymm h1 h2
    have cO : (o.map posF).sum = 1 := by rw [smf posF rfl]; unfold posF; rw [if_pos hS]
    have hne : ∀ r ∈ R, r ≠ o := fun r hr z => by
      have h := h3 r hr
      have h4 := hold_pos r
      rw [z, cO] at h4
      rw [z] at h
      omega
    have each : ∀ r ∈ R, brkT r o = [] ↔ S.toNat / 2 ^ v2 S.toNat = gl r / 2 ^ v2 (gl r) := fun r hr => by
      have hb : brkT r o = [] ↔ Cl r o := by
        unfold brkT
        rw [if_neg (hne r hr), if_neg (fun z => z (by rw [(like r hr).1, lo]))]
        exact cl_iff
      have hz : ∀ q, r.getD q 0 = 0 → o.getD q 0 = 0 := fun q hq => by
        have hpq : p ≠ q := fun z => by have := hpos r hr; rw [z] at this; omega
        rw [← ho, set_at hpq, rep_at]
      rw [hb, cl_unit (nn r hr) no (glp r hr) (by rw [go]; omega) (by rw [so, (like r hr).2]) (by rw [(like r hr).1, lo]) hz, go, ms_pow (glp r hr) (by omega) (gldN r hr)]
      have := three r hr
      have := glp r hr
      exact ⟨fun z => z.1, fun z => ⟨z, fun y => by omega⟩⟩
    constructor
    · intro h
      refine ⟨rfl, alike o h hne, .inr ⟨by simp, (each r0 h0).mp (h r0 h0)⟩⟩
    · rintro ⟨_, hm, h⟩ r hr
      rcases h with h | ⟨_, h⟩
      · simp at h
      · refine (each r hr).mpr ?_
        have := hm r hr
        rw [ms_nat, ms_nat] at this
        omega
  | x :: y :: rest =>
    obtain ⟨p, rfl, hp, hpos⟩ := pl_mem (n := n) (R := R) (x := x) (by rw [hpl]; exact List.mem_cons_self)
    obtain ⟨q, rfl, hq, hqos⟩ := pl_mem (n := n) (R := R) (x := y) (by rw [hpl]; exact List.mem_cons_of_mem _ List.mem_cons_self)
    have hpq : p ≠ q := fun z => by
      have := pl_nodup n R
      rw [hpl] at this
      exact (List.nodup_cons.mp this).1 (by rw [z]; exact List.mem_cons_self)
    rw [if_neg (by simp), fin]
    obtain ⟨rm, hrm, em⟩ := max_in (R := R) (List.ne_nil_of_mem h0)
    show (∀ r ∈ R, brkT r ((((List.replicate n 0).set (p : Int).toNat S).set (q : Int).toNat (2 * (maxU R : Int))).set (p : Int).toNat (S - 2 * (maxU R : Int))) = []) ↔ _
    rw [Int.toNat_natCast, Int.toNat_natCast, em]
    have hU3 := three rm hrm
    have hU0 := glp rm hrm
    have hUd := gld rm hrm
    generalize ho : (((List.replicate n (0 : Int)).set p S).set q (2 * (gl rm : Int))).set p (S - 2 * (gl rm : Int)) = o
    have mem0 : ∀ x ∈ o, x = 0 ∨ x = S ∨ x = 2 * (gl rm : Int) ∨ x = S - 2 * (gl rm : Int) := fun x hx => by
      rw [← ho] at hx
      rcases List.mem_or_eq_of_mem_set hx with z | z
      · rcases List.mem_or_eq_of_mem_set z with z | z
        · rcases List.mem_or_eq_of_mem_set z with z | z
          · exact .inl (List.eq_of_mem_replicate z)
          · exact .inr (.inl z)
        · exact .inr (.inr (.inl z))
      · exact .inr (.inr (.inr z))
    have no : ∀ x ∈ o, 0 ≤ x := fun x hx => by rcases mem0 x hx with z | z | z | z <;> omega
    have lo : o.length = n := by rw [← ho, List.length_set, List.length_set, List.length_set, List.length_replicate]
    have smf : ∀ f : Int → Int, f 0 = 0 → (o.map f).sum = f (2 * (gl rm : Int)) + f (S - 2 * (gl rm : Int)) := fun f f0 => by
      rw [← ho, sum_setF f (y := S) (by rw [List.getElem?_set_ne hpq.symm, List.getElem?_set_self (by rw [List.length_replicate]; exact hp)]), sum_setF f (y := 0) (by rw [List.getElem?_set_ne hpq]; exact rep_get hq), sum_setF f (rep_get hp), rep_map_sum f f0, f0]
      omega
    have so : o.sum = S := by have := smf (fun n => n) rfl; rw [map_id_sum] at this; omega
    have m2 : 2 * (gl rm : Int) ∈ o := by
      rw [← ho]
      refine List.mem_of_getElem? (i := q) ?_
      rw [List.getElem?_set_ne hpq, List.getElem?_set_self (by rw [List.length_set, List.length_replicate]; exact hq)]
    have dvo : ∀ x ∈ o, (gl rm : Int) ∣ x := fun x hx => by
      rcases mem0 x hx with z | z | z | z
      · rw [z]; exact ⟨0, by simp⟩
      · rw [z]; exact hUd
      · rw [z]; exact ⟨2, by rw [Int.mul_comm]⟩
      · rw [z]; exact Int.dvd_sub hUd ⟨2, by rw [Int.mul_comm]⟩
    have hgl := gl_between no dvo m2 hU0
    have cO : (o.map posF).sum = 2 := by
      rw [smf posF rfl]
      unfold posF
      rw [if_pos (by omega), if_pos (by omega)]; decide
    have hne : ∀ r ∈ R, r ≠ o := fun r hr z => by
      have h := h3 r hr
      have h4 := hold_pos r
      rw [z, cO] at h4
      rw [z] at h
      omega
    constructor
    · intro h
      exact ⟨rfl, alike o h hne, .inl (by simp)⟩
    · rintro ⟨_, hm, _⟩ r hr
      refine brk_of_cl (by rw [(like r hr).1, lo]) ?_
      have hz : ∀ j, r.getD j 0 = 0 → o.getD j 0 = 0 := fun j hj => by
        have hpj : p ≠ j := fun z => by have := hpos r hr; rw [z] at this; omega
        have hqj : q ≠ j := fun z => by have := hqos r hr; rw [z] at this; omega
        rw [← ho, set_at hpj, set_at hqj, set_at hpj, rep_at]
      have hgo : 0 < gl o := by rcases hgl with z | z <;> omega
      refine (cl_unit (nn r hr) no (glp r hr) hgo (by rw [so, (like r hr).2]) (by rw [(like r hr).1, lo]) hz).mpr ⟨?_, fun e => ⟨?_, ?_⟩⟩
      · -- each unit parts the greatest one, by twos alone
        have hle : gl r ≤ gl rm := by rw [← em]; exact max_ge hr
        have e1 : gl rm / 2 ^ v2 (gl rm) = gl r / 2 ^ v2 (gl r) := by
          have a := hm r hr
          have b := hm rm hrm
          rw [ms_nat, ms_nat] at a b
          omega
        have hv : v2 (gl r) ≤ v2 (gl rm) := by
          apply Classical.byContradiction
          intro z
          have s1 := v2_split (glp r hr)
          have s2 := v2_split hU0
          rw [e1] at s2
          have hor := odd_rest (glp r hr)
          have hmo : 0 < gl r / 2 ^ v2 (gl r) := Nat.pos_of_ne_zero fun z => by rw [z] at hor; cases hor
          have : 2 ^ v2 (gl rm) < 2 ^ v2 (gl r) := Nat.pow_lt_pow_right (by decide) (by omega)
          have := Nat.mul_lt_mul_of_pos_right this hmo
          omega
        have hdm : gl r ∣ gl rm := by
          rw [v2_split (glp r hr), v2_split hU0, e1]
          exact Nat.mul_dvd_mul (Nat.pow_dvd_pow 2 hv) (Nat.dvd_refl _)
        have hdo : gl r ∣ gl o := by
          rcases hgl with z | z
          · rw [z]; exact hdm
          · rw [z]; exact Nat.dvd_trans hdm ⟨2, Nat.mul_comm _ _⟩
        refine (ms_pow (glp r hr) hgo hdo).mpr ?_
        have hmo := (ms_of (g := gl rm) (g' := gl o) hU0 hgl).1
        have e3 : ((gl o : Int) / 2 ^ v2 (gl o)) = ((gl o / 2 ^ v2 (gl o) : Nat) : Int) := by rw [Int.natCast_ediv, Int.natCast_pow]; rfl
        have e4 : ((gl rm : Int) / 2 ^ v2 (gl rm)) = ((gl rm / 2 ^ v2 (gl rm) : Nat) : Int) := by rw [Int.natCast_ediv, Int.natCast_pow]; rfl
        rw [e3, e4] at hmo
        omega
      · have hle : gl r ≤ gl rm := by rw [← em]; exact max_ge hr
        have eU : gl r = gl rm := by rcases hgl with z | z <;> omega
        rw [smf _ (oddF_zero _), eU, oddF_two rfl, ← eU]
        have h1 := od_pos (nn r hr) (glp r hr)
        have h2 : oddF (v2 (gl r)) (S - 2 * (gl r : Int)) ≤ 1 := by unfold oddF; split <;> decide
        omega
      · have hle : gl r ≤ gl rm := by rw [← em]; exact max_ge hr
        have eU : gl r = gl rm := by rcases hgl with z | z <;> omega
        rw [cO, smf _ (oddF_zero _), eU, oddF_two rfl, ← eU]
        have h2 : oddF (v2 (gl r)) (S - 2 * (gl r : Int)) ≤ 1 := by unfold oddF; split <;> decide
        omega
end MG

/-! MG: {row: v} -/
namespace MG
open PySem PySem.Spec PyProof.Rows L2
section
variable {X : Cx}
def tDispT (tk tv : TE) : TE := fun σ H Q => ∀ p, H p = none → tk σ (upd H p (.dT [])) fun x H1 => tv σ H1 fun y H2 => H2 p = some (.dT []) ∧ ∃ b k, x = .ref b ∧ H2 b = some (.tup (k.map kV)) ∧ Q (.ref p) (upd H2 p (.dT [(k, y)]))
theorem pe_dispT {k v : PySem.Expr} {tk tv : TE} {pos : Pos} (hu : X.A.units + 1 < cLine) (hk : PE X k tk) (hv : PE X v tv) : PE X (.Dict [some k] [v] pos) (tDispT tk tv) := by
  refine ⟨fun pins s σ H Q I q => ?_⟩
  have hn := I.hok.fresh (Nat.le_refl s.heap.objs.size)
  have I1 := I.laid (a := s.heap.objs.size) (o := .dT []) (h' := s.heap.push { cls := .type "dict", data := .dict #[] }) (t' := s.toks) (fun _ _ q => Heap.get?_push_of_some _ q) (Nat.le_refl _) (dt_empty s.heap I.big)
  refine wpAny_Dict_any rfl rfl (by simp) (by simp) (pairTrees_cons_walk (thn (hk.run pins _ σ _ _ I1 (q _ hn)) fun u s1 ⟨x, H1, I1, rx, q1⟩ => thn (hv.run pins s1 σ H1 _ I1 q1) fun w2 s2 ⟨y, H2, I2, ry, q2⟩ => pairTrees_nil_walk ?_))
  obtain ⟨e, b, kk, rfl, eb, q3⟩ := q2
  cases (show u = Value.ref b from rx)
  obtain ⟨z, hd, xs, rel, dd⟩ := dt_of I2.hok e
  cases rel
  refine wpAny_storeAllH (knd := tupleKind (mixKind X.prog X.w)) (show X.A.units < cLine by omega) [(.ref b, w2)] [(kk, b, w2)] [] s2 _ ⟨rfl, rfl, key_of I2.hok eb, trivial⟩ dd (by rw [sizeLine_eq]; simp) fun h' tk dd' hs => ?_
  obtain ⟨q, es, ep, hq, h2, h3, h4, _, h5⟩ := dd'
  refine ⟨.ref s.heap.objs.size, _, ?_, rfl, q3⟩
  refine d_write I2 (by rw [e]; exact True.intro) hs ⟨q, hq⟩ ⟨by rw [sizeLine_eq]; show 1 ≤ _; decide, hd, _, (KT.put (kvs := []) (xs := []) .nil kk eb ry).keeps fun c ys ec => ?_, q, es, ep, hq, h2, h3, h4, h5⟩
  rw [upd_ne (ne_of ec e (fun z => nomatch z))]
  exact ec
end
end MG

/-! MG: all rows that deeds come to -/
namespace MG
open PySem PySem.Spec PyProof.Rows L2
inductive Re (r : List Int) : List Int → Prop
  | refl : Re r r
  | step {m : List Int} {i j : Nat} : Re r m → MayG m i j → Re r (deed m i j)
theorem Re.keeps {r o : List Int} (h : Re r o) (nn : ∀ n ∈ r, 0 ≤ n) : o.length = r.length ∧ o.sum = r.sum ∧ ∀ n ∈ o, 0 ≤ n := by
  induction h with
  | refl => exact ⟨rfl, rfl, nn⟩
  | step _ m ih =>
    have l := deed_lv m ih.2.2
    exact ⟨l.len.trans ih.1, l.sum.trans ih.2.1, l.nn⟩
theorem Re.trans {r m o : List Int} (a : Re r m) (b : Re m o) : Re r o := by
  induction b with
  | refl => exact a
  | step _ h ih => exact .step ih h
theorem Re.lv {r m o : List Int} (a : Lv r m) (b : Re m o) : Lv r o := by
  induction b with
  | refl => exact a
  | step _ h ih => exact ih.trans (deed_lv h ih.nn)
def enc : List Int → Nat
  | [] => 0
  | x :: l => x.toNat + 13 * enc l
theorem enc_lt : ∀ {l : List Int}, (∀ x ∈ l, x ≤ 12) → enc l < 13 ^ l.length
  | [], _ => by decide
  | x :: l, h => by
    have ih := enc_lt (l := l) fun y hy => h y (List.mem_cons_of_mem _ hy)
    have hx := h x List.mem_cons_self
    unfold enc
    rw [List.length_cons, Nat.pow_succ]
    omega
theorem enc_inj : ∀ {a b : List Int}, a.length = b.length → (∀ x ∈ a, 0 ≤ x ∧ x ≤ 12) → (∀ x ∈ b, 0 ≤ x ∧ x ≤ 12) → enc a = enc b → a = b
  | [], [], _, _, _, _ => rfl
  | [], _ :: _, h, _, _, _ => by simp at h
  | _ :: _, [], h, _, _, _ => by simp at h
  | x :: a, y :: b, hl, ha, hb, e => by
    have hx := ha x List.mem_cons_self
    have hy := hb y List.mem_cons_self
    unfold enc at e
    have : x = y := by omega
    subst this
    rw [enc_inj (by simpa using hl) (fun z hz => ha z (List.mem_cons_of_mem _ hz)) (fun z hz => hb z (List.mem_cons_of_mem _ hz)) (by omega)]
/-- few rows of small sums -/
theorem few_rows {n : Nat} {F : List (List Int)} (nd : F.Nodup) (h : ∀ o ∈ F, o.length = n ∧ ∀ x ∈ o, 0 ≤ x ∧ x ≤ 12) : F.length ≤ 13 ^ n := by
  have e := few_below (13 ^ n) (F.map enc) (by
    rw [List.Nodup, List.pairwise_map]
    refine List.Pairwise.imp_of_mem ?_ nd
    intro a b ha hb hne z
    exact hne (enc_inj ((h a ha).1.trans (h b hb).1.symm) (h a ha).2 (h b hb).2 z)) fun x hx => by
    obtain ⟨o, ho, rfl⟩ := List.mem_map.mp hx
    have := enc_lt (l := o) fun y hy => ((h o ho).2 y hy).2
    rw [(h o ho).1] at this
    exact this
  rw [List.length_map] at e
  exact e
theorem le_sum12 {o : List Int} (nn : ∀ x ∈ o, 0 ≤ x) (hs : o.sum ≤ 12) : ∀ x ∈ o, 0 ≤ x ∧ x ≤ 12 := fun x hx => ⟨nn x hx, by
  have := mem_le_sumG nn x hx
  omega⟩
def kR (r : List Int) : List Key := r.map Sum.inl
theorem kR_map (r : List Int) : (kR r).map kV = r.map V.int := by unfold kR; rw [List.map_map]; rfl
theorem kR_inj {a b : List Int} (e : kR a = kR b) : a = b := by
  have : (kR a).map kV = (kR b).map kV := by rw [e]
  rw [kR_map, kR_map] at this
  exact List.map_inj_right (fun x y h => by injection h) |>.mp this
def dE (e : List Int × Int) : List Key × V := (kR e.1, .int e.2)
theorem valE_none {o : List Int} : ∀ {E : List (List Int × Int)}, o ∉ E.map Prod.fst → valV (E.map dE) (kR o) = none
  | [], _ => rfl
  | e :: E, h => by
    rw [List.map_cons, List.mem_cons, not_or] at h
    rw [List.map_cons, valV_neg (fun z => h.1 (kR_inj z).symm)]
    exact valE_none h.2
theorem valE_some {o : List Int} : ∀ {E : List (List Int × Int)}, o ∈ E.map Prod.fst → ∃ c, valV (E.map dE) (kR o) = some (.int c)
  | [], h => by cases h
  | e :: E, h => by
    by_cases z : e.1 = o
    · exact ⟨e.2, by rw [List.map_cons, valV_pos (show (dE e).1 = kR o by show kR e.1 = _; rw [z])]; rfl⟩
    · rw [List.map_cons, List.mem_cons] at h
      obtain ⟨c, hc⟩ := valE_some (h.resolve_left fun y => z y.symm)
      exact ⟨c, by rw [List.map_cons, valV_neg (fun y => z (kR_inj y))]; exact hc⟩
/-- while the next ones are sought -/
structure Mid (r : List Int) (F : List (List Int)) (E : List (List Int × Int)) (M : List (List Int)) : Prop where
  nd : (E.map Prod.fst).Nodup
  re : ∀ o ∈ E.map Prod.fst, Re r o
  sub : ∀ o ∈ F, o ∈ E.map Prod.fst
  new : ∀ o ∈ E.map Prod.fst, o ∈ F ∨ o ∈ M
  mem : ∀ o ∈ M, o ∈ E.map Prod.fst
  grow : F.length + M.length = E.length
theorem Mid.put {r : List Int} {F : List (List Int)} {E : List (List Int × Int)} {M : List (List Int)} {o : List Int} {c : Int} (h : Mid r F E M) (ho : o ∉ E.map Prod.fst) (hr : Re r o) : Mid r F (E ++ [(o, c)]) (M ++ [o]) := by
  have e : (E ++ [(o, c)]).map Prod.fst = E.map Prod.fst ++ [o] := by rw [List.map_append]; rfl
  refine ⟨?_, fun x hx => ?_, fun x hx => ?_, fun x hx => ?_, fun x hx => ?_, ?_⟩
  · rw [e]
    refine List.nodup_append.mpr ⟨h.nd, by simp, fun a ha b hb z => ?_⟩
    rw [z, List.mem_singleton.mp hb] at ha
    exact ho ha
  · rw [e] at hx
    rcases List.mem_append.mp hx with z | z
    · exact h.re x z
    · rw [List.mem_singleton.mp z]; exact hr
  · rw [e]
    exact List.mem_append_left _ (h.sub x hx)
  · rw [e] at hx
    rcases List.mem_append.mp hx with z | z
    · exact (h.new x z).imp id (List.mem_append_left _)
    · exact .inr (List.mem_append_right _ z)
  · rw [e]
    rcases List.mem_append.mp hx with z | z
    · exact List.mem_append_left _ (h.mem x z)
    · exact List.mem_append_right _ z
  · rw [List.length_append, List.length_append, ← h.grow]
    show _ = _ + 1
    show _ + (_ + 1) = _
    omega
/-- all that is closed and holds the row holds what deeds come to -/
theorem re_in {r : List Int} {F : List (List Int)} (h0 : r ∈ F) (hc : ∀ o ∈ F, ∀ i j, MayG o i j → deed o i j ∈ F) {o : List Int} (h : Re r o) : o ∈ F := by
  induction h with
  | refl => exact h0
  | step _ m ih => exact hc _ ih _ _ m
end MG

namespace K56
open PySem PySem.Spec PyProof.Rows L2 MG
abbrev sDeed : Stmt := topS 58
abbrev nDeed : List Str := ["_law_row_here", "_law_i", "_law_j", "_law_found"]
theorem scDeed : FnScope ["_law_row_here", "_law_i", "_law_j", "_law_found"] ["_law_row_here", "_law_i", "_law_j"] (defScope sDeed) := ⟨rfl, rfl, rfl, by decide +kernel, rfl, by decide +kernel, by decide +kernel⟩
abbrev sNext : Stmt := topS 59
abbrev nNext : List Str := ["_law_row_here", "_law_found", "_law_i", "_law_j"]
theorem scNext : FnScope ["_law_row_here", "_law_found", "_law_i", "_law_j"] ["_law_row_here"] (defScope sNext) := ⟨rfl, rfl, rfl, by decide +kernel, rfl, by decide +kernel, by decide +kernel⟩
section
variable {P : Program} {w : World} {K : PySem.W.Frag} {mg : Str → Option Value} {base : Heap}
def spDeedL : Sp := fun vs H Q _ => ∃ (a : Addr) (ns : List Int) (i j : Nat), vs = [.ref a, .int i, .int j] ∧ H a = some (.tup (ns.map V.int)) ∧ (∀ n ∈ ns, 0 ≤ n) ∧ ns.length ≤ 40 ∧ i < ns.length ∧ j < ns.length ∧
  (∀ p H', Same H H' → H p = none → H' p = some (.lst []) → ¬ MayG ns i j → Q (.ref p) H') ∧
  (∀ p t H', Same H H' → H p = none → H t = none → H' p = some (.lst [.ref t]) → H' t = some (.tup ((deed ns i j).map V.int)) → MayG ns i j → Q (.ref p) H')
theorem ok_deedL {f : Addr} {fd : FuncData} {k : Nat} (F : Fun K "_law_deed" "_law_deed" sDeed f fd) (m_list : mg "list" = none) (m_tuple : mg "tuple" = none) :
    FnOk P w K mg base CX0 (k + 1) f fd ["_law_row_here", "_law_i", "_law_j"] spDeedL := by
  refine F.ok scDeed (fun vs H Q E h => ?_) (fun cdv A outer s H vs Q E hr h => ?_)
  · obtain ⟨a, ns, i, j, rfl, _⟩ := h
    rfl
  · obtain ⟨a, ns, i, j, rfl, r, nn, hl, hi, hj, q0, q1⟩ := h
    refine ⟨_, pss_cons (ps_if (PW.pt (pw_or (pt_cmpR op_eq (pv 1) (pv 2) (nomark _)) (pw_or (pt_cmpR op_lt (pe_ix ix_tup (pv 0) (pv 1) (fun _ _ => rfl)) (pe_ix ix_tup (pv 0) (pv 2) (fun _ _ => rfl)) (nomark _)) (pw_or1 (pt_cmpR op_eq (pe_ix ix_tup (pv 0) (pv 2) (fun _ _ => rfl)) pe_int (nomark _)))))) (pss_one (ps_ret (pe_lst pa_nil))) pss_nil)
      (pss_cons (ps_set (i := 3) scDeed.nd rfl (.inl rfl) (pe_callTy call_list_of (by rfl) m_list (by decide +kernel) (pa_cons (pv 0) pa_nil)))
      (pss_cons (ps_asg (pe_tup (pa_cons (pe_op op_sub (pe_ix ix_tup (pv 0) (pv 1) (fun _ _ => rfl)) (pe_ix ix_tup (pv 0) (pv 2) (fun _ _ => rfl))) (pa_cons (pe_op op_mul pe_int (pe_ix ix_tup (pv 0) (pv 2) (fun _ _ => rfl))) pa_nil))) (pg_tup rfl (pgs_cons (pg_sub (pv 3) (pv 1) set_list) (pgs_cons (pg_sub (pv 3) (pv 2) set_list) pgs_nil))))
      (pss_one (ps_ret (pe_lst (pa_cons (pe_callTy call_tuple_of (by rfl) m_tuple (by decide +kernel) (pa_cons (pv 3) pa_nil)) pa_nil)))))), ?_⟩
    have hS : SqT K H a (ns.map V.int) := SqT.of r
    refine ⟨_, rfl, _, rfl, rfl, _, rfl, ?_⟩
    rw [decI]
    by_cases hij : (i : Int) = j
    · rw [decide_eq_true hij]
      exact iteT (iteT ⟨by show 0 ≤ sizeLine; decide, fun p np => q0 p _ (same_upd np) np upd_same fun m => m.ne (by omega)⟩)
    rw [decide_eq_false hij]
    refine iteF ⟨_, rfl, _, rfl, a, _, (i : Int), .int (ns.getD i 0), rfl, rfl, hS, atI_nat (getD_at hi), _, rfl, _, rfl, a, _, (j : Int), .int (ns.getD j 0), rfl, rfl, hS, atI_nat (getD_at hj), _, _, rfl, rfl, _, rfl, ?_⟩
    by_cases hlt : ns.getD i 0 < ns.getD j 0
    · rw [decide_eq_true hlt]
      exact iteT (iteT ⟨by show 0 ≤ sizeLine; decide, fun p np => q0 p _ (same_upd np) np upd_same fun m => by have := m.ge; omega⟩)
    rw [decide_eq_false hlt]
    refine iteF ⟨_, rfl, _, rfl, a, _, (j : Int), .int (ns.getD j 0), rfl, rfl, hS, atI_nat (getD_at hj), rfl, _, rfl, ?_⟩
    rw [decI]
    by_cases hz : ns.getD j 0 = 0
    · rw [decide_eq_true hz]
      exact iteT ⟨by show 0 ≤ sizeLine; decide, fun p np => q0 p _ (same_upd np) np upd_same fun m => by have := m.pj; omega⟩
    rw [decide_eq_false hz]
    have hpj : 0 < ns.getD j 0 := by
      have := nn _ (MG.getD_mem hj)
      omega
    have m : MayG ns i j := ⟨hi, hj, fun z => hij (by rw [z]), hpj, by omega⟩
    refine iteF ⟨_, rfl, a, ns.map V.int, rfl, .inr hS, fun l nl => ?_⟩
    have s1 : Same H (upd H l (.lst (ns.map V.int))) := same_upd nl
    have e1 : upd H l (.lst (ns.map V.int)) l = some (.lst (ns.map V.int)) := upd_same
    generalize upd H l (HO.lst (ns.map V.int)) = H1 at s1 e1 ⊢
    have hS1 : SqT K H1 a (ns.map V.int) := SqT.of (s1 _ _ r)
    refine ⟨.ref a, rfl, _, rfl, a, _, (i : Int), .int (ns.getD i 0), rfl, rfl, hS1, atI_nat (getD_at hi), .ref a, rfl, _, rfl, a, _, (j : Int), .int (ns.getD j 0), rfl, rfl, hS1, atI_nat (getD_at hj), _, _, rfl, rfl,
      .ref a, rfl, _, rfl, a, _, (j : Int), .int (ns.getD j 0), rfl, rfl, hS1, atI_nat (getD_at hj), 2, _, rfl, rfl, .inl ⟨by decide, by decide⟩, by show 2 ≤ sizeLine; decide, fun tp ntp => ?_⟩
    have e1' : upd H1 tp (.tup [.int (ns.getD i 0 - ns.getD j 0), .int (2 * ns.getD j 0)]) l = some (.lst (ns.map V.int)) := same_upd ntp _ _ e1
    have s2 : Same H (upd H1 tp (.tup [.int (ns.getD i 0 - ns.getD j 0), .int (2 * ns.getD j 0)])) := s1.trans (same_upd ntp)
    refine ⟨tp, _, rfl, SqT.of upd_same, rfl, .int (ns.getD i 0 - ns.getD j 0), [.int (2 * ns.getD j 0)], rfl, _, rfl, _, rfl, l, _, (i : Int), i, rfl, rfl, e1', ixN_nat (by rw [List.length_map]; exact hi), .int (2 * ns.getD j 0), [], rfl, _, rfl, _, rfl, l, _, (j : Int), j, rfl, rfl, upd_same, ixN_nat (by rw [List.length_set, List.length_map]; exact hj), rfl, ?_⟩
    generalize upd H1 tp (HO.tup [.int (ns.getD i 0 - ns.getD j 0), .int (2 * ns.getD j 0)]) = H2 at e1' s2 ⊢
    rw [← List.map_set, ← List.map_set]
    have ed : (ns.set i (ns.getD i 0 - ns.getD j 0)).set j (2 * ns.getD j 0) = deed ns i j := rfl
    rw [ed]
    have s3 : Same H (upd (upd H2 l (.lst ((ns.set i (ns.getD i 0 - ns.getD j 0)).map V.int))) l (.lst ((deed ns i j).map V.int))) := fun c o hc => by rw [upd_ne (ne_of_none hc nl), upd_ne (ne_of_none hc nl)]; exact s2 c o hc
    have e3 : upd (upd H2 l (.lst ((ns.set i (ns.getD i 0 - ns.getD j 0)).map V.int))) l (.lst ((deed ns i j).map V.int)) l = some (.lst ((deed ns i j).map V.int)) := upd_same
    generalize upd (upd H2 l (HO.lst ((ns.set i (ns.getD i 0 - ns.getD j 0)).map V.int))) l (HO.lst ((deed ns i j).map V.int)) = H3 at s3 e3 ⊢
    refine ⟨_, rfl, l, _, rfl, .inl ⟨SqL.of e3, fun t nt => ⟨by show 1 ≤ sizeLine; decide, fun p np => ?_⟩⟩⟩
    have s4 := s3.trans (same_upd nt (o := .tup ((deed ns i j).map V.int)))
    exact q1 p t _ (s4.trans (same_upd np)) (s4.free np) (s3.free nt) upd_same (same_upd np _ _ upd_same) m
/-- rows one deed on: ts in H -/
def Nx (H : Hp) (ns : List Int) (ts : List Addr) : Prop := ∀ t ∈ ts, ∃ i j, MayG ns i j ∧ H t = some (.tup ((deed ns i j).map V.int))
theorem Nx.mono {H H' : Hp} {ns : List Int} {ts : List Addr} (h : Nx H ns ts) (s : ∀ a xs, H a = some (.tup xs) → H' a = some (.tup xs)) : Nx H' ns ts := fun t ht => by
  obtain ⟨i, j, m, e⟩ := h t ht
  exact ⟨i, j, m, s _ _ e⟩
def Nc (H : Hp) (ns : List Int) (ts : List Addr) (i j : Nat) : Prop := ∀ i' j', MayG ns i' j' → (i' < i ∨ i' = i ∧ j' < j) → ∃ t ∈ ts, H t = some (.tup ((deed ns i' j').map V.int))
theorem Nc.mono {H H' : Hp} {ns : List Int} {ts : List Addr} {i j : Nat} (h : Nc H ns ts i j) (s : ∀ a xs, H a = some (.tup xs) → H' a = some (.tup xs)) : Nc H' ns ts i j := fun i' j' m l => by
  obtain ⟨t, ht, e⟩ := h i' j' m l
  exact ⟨t, ht, s _ _ e⟩
def spNext : Sp := fun vs H Q _ => ∃ (a : Addr) (ns : List Int), vs = [.ref a] ∧ H a = some (.tup (ns.map V.int)) ∧ (∀ n ∈ ns, 0 ≤ n) ∧ ns.length ≤ 30 ∧
  ∀ p ts H', Same H H' → H p = none → H' p = some (.lst (ts.map V.ref)) → ts.length ≤ ns.length * ns.length → Nx H' ns ts → Nc H' ns ts ns.length 0 → Q (.ref p) H'
theorem ok_next {f fJ : Addr} {fd fdJ : FuncData} {k : Nat} (F : Fun K "_law_next" "_law_next" sNext f fd)
    (FJ : Fun K "_law_deed" "_law_deed" sDeed fJ fdJ) (bJ : Binds K fdJ ["_law_row_here", "_law_i", "_law_j"] []) (gJ : mg "_law_deed" = some (.ref fJ)) (GJ : FnOk P w K mg base CX0 (k + 1) fJ fdJ ["_law_row_here", "_law_i", "_law_j"] spDeedL)
    (m_len : mg "len" = none) (m_range : mg "range" = none) : FnOk P w K mg base CX0 (k + 2) f fd ["_law_row_here"] spNext := by
  refine F.ok scNext (fun vs H Q E h => ?_) (fun cdv A outer s H vs Q E hr h => ?_)
  · obtain ⟨a, ns, rfl, _⟩ := h
    rfl
  · obtain ⟨a, ns, rfl, r, nn, hl, q⟩ := h
    have hr1 := hr
    refine ⟨_, pss_cons (ps_set (i := 1) scNext.nd rfl (.inl rfl) (pe_lst pa_nil))
      (pss_cons (ps_for PassesOwn.never rfl (pi_range1 (by rfl) m_range (pa_cons (pe_callB call_len_seq (by rfl) m_len PySem.boot_len (pa_cons (pv 0) pa_nil)) pa_nil)) (pg_name (i := 2) scNext.nd rfl (.inl rfl)) (pss_one (ps_for PassesOwn.never rfl (pi_range1 (by rfl) m_range (pa_cons (pe_callB call_len_seq (by rfl) m_len PySem.boot_len (pa_cons (pv 0) pa_nil)) pa_nil)) (pg_name (i := 3) scNext.nd rfl (.inl rfl)) (pss_one (ps_expr (pe_bm PySem.F.plainAttrs_list PySem.F.slot_list_extend PySem.F.type_list_extend mt_extend (pv 1) (pa_cons (pe_call GJ hr1 (by rfl) gJ FJ.kp bJ .nil pass0 (pa_cons (pv 0) (pa_cons (pv 2) (pa_cons (pv 3) pa_nil)))) pa_nil)))))))
      (pss_one (ps_ret (pv 1)))), ?_⟩
    refine ⟨by show 0 ≤ sizeLine; decide, fun fo nfo => ?_⟩
    have s1 : Same H (upd H fo (.lst [])) := same_upd nfo
    have e1 : upd H fo (.lst []) fo = some (.lst []) := upd_same
    generalize upd H fo (HO.lst []) = H1 at s1 e1 ⊢
    refine ⟨_, rfl, a, _, rfl, .inr (SqT.of (s1 _ _ r)), _, rfl, by omega, by rw [List.length_map]; omega, ?_⟩
    refine for_range (lo := 0) (n := ((ns.map V.int).length : Int).toNat) (fun i σ G => ∃ (y2 y3 : Option V) (ts : List Addr), σ = [some (.ref a), some (.ref fo), y2, y3] ∧ Same H G ∧ G fo = some (.lst (ts.map V.ref)) ∧ ts.length ≤ i * ns.length ∧ Nx G ns ts ∧ Nc G ns ts i 0) ?_ ?_ ?_
    · exact ⟨_, _, [], rfl, s1, e1, Nat.zero_le _, fun t ht => absurd ht List.not_mem_nil, fun i' j' m l => by omega⟩
    · rintro i σ G hi ⟨y2, y3, ts, rfl, sm, ef, tl, nx, nc⟩
      have hi' : i < ns.length := by rw [List.length_map] at hi; omega
      refine ⟨_, rfl, a, _, rfl, .inr (SqT.of (sm _ _ r)), _, rfl, by omega, by rw [List.length_map]; omega, ?_⟩
      refine for_range (lo := 0) (n := ((ns.map V.int).length : Int).toNat) (fun j σ G => ∃ (y3 : Option V) (ts : List Addr), σ = [some (.ref a), some (.ref fo), some (.int (0 + (i : Int))), y3] ∧ Same H G ∧ G fo = some (.lst (ts.map V.ref)) ∧ ts.length ≤ i * ns.length + j ∧ Nx G ns ts ∧ Nc G ns ts i j) ?_ ?_ ?_
      · exact ⟨_, ts, rfl, sm, ef, tl, nx, nc⟩
      · rintro j σ G hj ⟨y3, ts, rfl, sm, ef, tl, nx, nc⟩
        have hj' : j < ns.length := by rw [List.length_map] at hj; omega
        have tl2 : ts.length + 1 ≤ 900 := by
          have h1 : (i + 1) * ns.length ≤ 30 * 30 := Nat.mul_le_mul (by omega) hl
          rw [Nat.add_mul, Nat.one_mul] at h1
          omega
        refine ⟨_, rfl, .inl ⟨rfl, _, SqL.of ef⟩, _, rfl, _, rfl, _, rfl, a, ns, i, j, by rw [Int.zero_add, Int.zero_add]; rfl, sm _ _ r, nn, by omega, hi', hj', fun p H' s' np ep nm => ?_, fun p t H' s' np nt ep et m => ?_⟩
        · refine ⟨fo, p, _, _, rfl, rfl, s' _ _ ef, ep, by rw [List.length_map]; show ts.length + 0 ≤ sizeLine; rw [sizeLine_eq]; omega, ?_⟩
          refine ⟨_, ts, rfl, fun c o hc => by rw [upd_ne (ne_of_none hc nfo)]; exact s' _ _ (sm c o hc), by rw [upd_same, List.append_nil], by omega, (nx.mono fun c xs hc => ?_), fun i' j' m l => ?_⟩
          · rw [upd_ne (fun z => by rw [z, ef] at hc; cases hc)]
            exact s' _ _ hc
          · have l' : i' < i ∨ i' = i ∧ j' < j := by
              rcases l with l | ⟨l1, l2⟩
              · exact .inl l
              · by_cases hjj : j' = j
                · subst l1 hjj; exact absurd m nm
                · exact .inr ⟨l1, by omega⟩
            obtain ⟨t, ht, e⟩ := nc i' j' m l'
            refine ⟨t, ht, ?_⟩
            rw [upd_ne (fun z => by rw [z, ef] at e; cases e)]
            exact s' _ _ e
        · refine ⟨fo, p, _, _, rfl, rfl, s' _ _ ef, ep, by rw [List.length_map]; show ts.length + 1 ≤ sizeLine; rw [sizeLine_eq]; omega, ?_⟩
          refine ⟨_, ts ++ [t], rfl, fun c o hc => by rw [upd_ne (ne_of_none hc nfo)]; exact s' _ _ (sm c o hc), by rw [upd_same, List.map_append]; rfl, by rw [List.length_append]; show ts.length + 1 ≤ _; omega, fun u hu => ?_, fun i' j' m' l => ?_⟩
          · rcases List.mem_append.mp hu with hu | hu
            · obtain ⟨i1, j1, m1, e1⟩ := nx u hu
              refine ⟨i1, j1, m1, ?_⟩
              rw [upd_ne (fun z => by rw [z, ef] at e1; cases e1)]
              exact s' _ _ e1
            · rw [List.mem_singleton.mp hu]
              refine ⟨i, j, m, ?_⟩
              rw [upd_ne (fun z => by rw [z, s' _ _ ef] at et; cases et)]
              exact et
          · by_cases hij : i' = i ∧ j' = j
            · obtain ⟨rfl, rfl⟩ := hij
              refine ⟨t, List.mem_append_right _ List.mem_cons_self, ?_⟩
              rw [upd_ne (fun z => by rw [z, s' _ _ ef] at et; cases et)]
              exact et
            · obtain ⟨u, hu, e1⟩ := nc i' j' m' (by omega)
              refine ⟨u, List.mem_append_left _ hu, ?_⟩
              rw [upd_ne (fun z => by rw [z, ef] at e1; cases e1)]
              exact s' _ _ e1
      · rintro σ G ⟨y3, ts, rfl, sm, ef, tl, nx, nc⟩
        rw [show ((ns.map V.int).length : Int).toNat = ns.length by rw [List.length_map]; exact Int.toNat_natCast _] at tl
        exact ⟨_, _, ts, rfl, sm, ef, by rw [Nat.add_mul, Nat.one_mul]; exact tl, nx, fun i' j' m l => nc i' j' m (by have := m.hj; rw [show ((ns.map V.int).length : Int).toNat = ns.length by rw [List.length_map]; exact Int.toNat_natCast _]; omega)⟩
    · rintro σ G ⟨y2, y3, ts, rfl, sm, ef, tl, nx, nc⟩
      rw [show ((ns.map V.int).length : Int).toNat = ns.length by rw [List.length_map]; exact Int.toNat_natCast _] at tl
      exact ⟨_, rfl, q fo ts G sm nfo ef tl nx (by rw [show ((ns.map V.int).length : Int).toNat = ns.length by rw [List.length_map]; exact Int.toNat_natCast _] at nc; exact nc)⟩
end
end K56

/-! MG: rows that come again -/
namespace MG
open PySem PySem.Spec PyProof.Rows L2
theorem odd_half {s x : Nat} (hs : s % 2 = 1) (h : s ∣ 2 * x) : s ∣ x := by
  obtain ⟨c, hc⟩ := h
  have h1 : (s * c) % 2 = 0 := by rw [← hc]; omega
  rw [Nat.mul_mod, hs, Nat.one_mul, Nat.mod_mod] at h1
  refine ⟨c / 2, ?_⟩
  have h2 : c = 2 * (c / 2) := by omega
  rw [h2, Nat.mul_left_comm] at hc
  omega
theorem odd_dvd {s m : Nat} (hs : s % 2 = 1) : ∀ {n : Nat}, s ∣ 2 ^ n * m → s ∣ m
  | 0, h => by rw [Nat.pow_zero, Nat.one_mul] at h; exact h
  | n + 1, h => by
    rw [Nat.pow_succ, Nat.mul_comm (2 ^ n) 2, Nat.mul_assoc] at h
    exact odd_dvd hs (odd_half hs h)
theorem od_ge {r : List Int} (nr : ∀ n ∈ r, 0 ≤ n) (h : ∃ n ∈ r, 0 < n) : 1 ≤ od r := by
  obtain ⟨n, hn, h0⟩ := h
  have h1 := od_sum nr
  have h2 := od_pos nr (gl_pos hn h0)
  omega
theorem ring_pair {p q : Nat} (p0 : 0 < p) (q0 : 0 < q) (hv : v2 p < v2 q) : (∀ n, 0 < p * 2 ^ n % (p + q)) ∧ ∃ d, 1 ≤ d ∧ p * 2 ^ d % (p + q) = p := by
  obtain ⟨t, et⟩ : ∃ t, v2 p = t := ⟨_, rfl⟩
  obtain ⟨p', ep, hp'⟩ : ∃ p', p = 2 ^ t * p' ∧ p' % 2 = 1 := ⟨p / 2 ^ v2 p, by rw [← et]; exact v2_split p0, odd_rest p0⟩
  obtain ⟨q', eq, hq'⟩ : ∃ q', q = 2 ^ t * q' ∧ q' % 2 = 0 := by
    refine ⟨2 ^ (v2 q - t) * (q / 2 ^ v2 q), ?_, ?_⟩
    · rw [← Nat.mul_assoc, ← Nat.pow_add, show t + (v2 q - t) = v2 q by omega]
      exact v2_split q0
    · obtain ⟨u, hu⟩ : ∃ u, v2 q - t = u + 1 := ⟨v2 q - t - 1, by omega⟩
      rw [hu, Nat.pow_succ, Nat.mul_comm (2 ^ u) 2, Nat.mul_assoc]
      omega
  have hT : 0 < 2 ^ t := Nat.pow_pos (by decide)
  have hq'0 : 0 < q' := by
    rcases Nat.eq_zero_or_pos q' with z | z
    · rw [z, Nat.mul_zero] at eq; omega
    · exact z
  have es : p + q = 2 ^ t * (p' + q') := by rw [ep, eq, Nat.mul_add]
  have hs' : (p' + q') % 2 = 1 := by omega
  have hp'0 : 0 < p' := by omega
  constructor
  · intro n
    rcases Nat.eq_zero_or_pos (p * 2 ^ n % (p + q)) with z | z
    · have h1 : (p + q) ∣ p * 2 ^ n := Nat.dvd_of_mod_eq_zero z
      rw [es, show p * 2 ^ n = 2 ^ t * (2 ^ n * p') by rw [ep, Nat.mul_assoc, Nat.mul_comm p' (2 ^ n)]] at h1
      have h2 := Nat.dvd_of_mul_dvd_mul_left hT h1
      have h3 := Nat.le_of_dvd hp'0 (odd_dvd hs' h2)
      omega
    · exact z
  · obtain ⟨i, j, hij, _, e⟩ := again (f := fun n => p * 2 ^ n % (p + q)) (s := p + q) fun n => Nat.mod_lt _ (by omega)
    obtain ⟨d, rfl⟩ : ∃ d, j = i + d := ⟨j - i, by omega⟩
    refine ⟨d, by omega, ?_⟩
    have h0 : 1 ≤ 2 ^ d := Nat.one_le_two_pow
    have h1 : (p + q) ∣ p * 2 ^ (i + d) - p * 2 ^ i := Nat.dvd_of_mod_eq_zero (Nat.sub_mod_eq_zero_of_mod_eq (show p * 2 ^ (i + d) % (p + q) = p * 2 ^ i % (p + q) from e.symm))
    have h2 : p * 2 ^ (i + d) - p * 2 ^ i = 2 ^ t * (2 ^ i * (p' * 2 ^ d - p')) := by
      rw [ep, Nat.pow_add, Nat.mul_sub, Nat.mul_sub]
      congr 1
      · ac_rfl
      · ac_rfl
    rw [es, h2] at h1
    have h3 := odd_dvd hs' (Nat.dvd_of_mul_dvd_mul_left hT h1)
    have h4 : (p + q) ∣ p * 2 ^ d - p := by
      rw [es, show p * 2 ^ d - p = 2 ^ t * (p' * 2 ^ d - p') by rw [Nat.mul_sub, ep, Nat.mul_assoc]]
      exact Nat.mul_dvd_mul_left _ h3
    have h5 : p ≤ p * 2 ^ d := Nat.le_mul_of_pos_right _ (by omega)
    obtain ⟨c, hc⟩ := h4
    have h6 : p * 2 ^ d = p + (p + q) * c := by omega
    rw [h6, Nat.add_mul_mod_self_left, Nat.mod_eq_of_lt (by omega)]
theorem setP_id {r : List Int} {i j p q : Nat} (T : Two r i j p q) : setP r i j (p : Int) = r := by
  unfold setP
  rw [T.ei, T.ej]
  have hi := T.hi
  have hj := T.hj
  have e1 : r.set i (p : Int) = r := by
    have := T.ei
    rw [getD_eq hi] at this
    rw [← this]
    exact List.set_getElem_self hi
  have e2 : (p : Int) + q - p = q := by omega
  rw [e1, e2]
  have := T.ej
  rw [getD_eq hj] at this
  rw [← this]
  exact List.set_getElem_self hj
theorem round_back {r : List Int} (nr : ∀ n ∈ r, 0 ≤ n) (hp : ∃ n ∈ r, 0 < n) (h : od r < (hold r r.length).length) : ∃ i j, MayG r i j ∧ Re (deed r i j) r := by
  have h1 := od_ge nr hp
  unfold od at h h1
  generalize v2 (gl r) = t at h h1
  obtain ⟨x, hx⟩ := List.exists_mem_of_length_pos h1
  unfold fewT at hx h
  obtain ⟨hxr, hx2⟩ := List.mem_filter.mp hx
  simp only [Bool.and_eq_true, decide_eq_true_eq] at hx2
  obtain ⟨y, hyr, hy0, hyv⟩ : ∃ y ∈ r, 0 < y ∧ t < v2 y.toNat := by
    apply Classical.byContradiction
    intro z
    rw [hold_all] at h
    have e : (r.filter fun n => decide (n > 0) && decide (v2 n.toNat ≤ t)) = r.filter fun n => decide (0 < n) := by
      refine List.filter_congr fun n hn => ?_
      by_cases h0 : 0 < n
      · have : v2 n.toNat ≤ t := Nat.le_of_not_lt fun w => z ⟨n, hn, h0, w⟩
        rw [decide_eq_true this, Bool.and_true]
      · rw [decide_eq_false h0]
        simp
    rw [e] at h
    omega
  obtain ⟨i, hi, ei⟩ := List.getElem_of_mem hxr
  obtain ⟨j, hj, ej⟩ := List.getElem_of_mem hyr
  have hij : i ≠ j := fun z => by
    subst z
    rw [ei] at ej
    subst ej
    omega
  obtain ⟨p, rfl⟩ : ∃ p : Nat, x = p := ⟨x.toNat, by omega⟩
  obtain ⟨q, rfl⟩ : ∃ q : Nat, y = q := ⟨y.toNat, by omega⟩
  rw [Int.toNat_natCast] at hyv
  have hxv := hx2.2
  rw [Int.toNat_natCast] at hxv
  have T : Two r i j p q := ⟨hi, hj, hij, by rw [getD_eq hi, ei], by rw [getD_eq hj, ej], by omega, by omega⟩
  obtain ⟨fp, d, hd, fd⟩ := ring_pair T.p0 T.q0 (by omega)
  have step : ∀ n, ∃ a b, MayG (setP r i j ((p * 2 ^ n % (p + q) : Nat) : Int)) a b ∧ deed (setP r i j ((p * 2 ^ n % (p + q) : Nat) : Int)) a b = setP r i j ((p * 2 ^ (n + 1) % (p + q) : Nat) : Int) := fun n => by
    have hlt : p * 2 ^ n % (p + q) < p + q := Nat.mod_lt _ (by omega)
    have h0 := fp n
    have eN : p * 2 ^ (n + 1) % (p + q) = 2 * (p * 2 ^ n % (p + q)) % (p + q) := by
      rw [Nat.pow_succ, ← Nat.mul_assoc, Nat.mul_comm (p * 2 ^ n) 2]
      rw [Nat.mul_mod, Nat.mul_mod 2 (p * 2 ^ n % (p + q)), Nat.mod_mod]
    rw [eN]
    generalize p * 2 ^ n % (p + q) = u at hlt h0
    have T' : Two (setP r i j (u : Int)) i j u (p + q - u) := ⟨by rw [setP_len]; exact hi, by rw [setP_len]; exact hj, hij, setP_i T _, by rw [setP_j T]; omega, h0, by omega⟩
    obtain ⟨a, b, m, e⟩ := two_step T'
    refine ⟨a, b, m, ?_⟩
    rw [e, setP_setP T, show u + (p + q - u) = p + q by omega]
  have e0 : setP r i j ((p * 2 ^ 0 % (p + q) : Nat) : Int) = r := by
    rw [Nat.pow_zero, Nat.mul_one, Nat.mod_eq_of_lt (by have := T.q0; omega)]
    exact setP_id T
  obtain ⟨a, b, m, e⟩ := step 0
  rw [e0] at m e
  refine ⟨a, b, m, ?_⟩
  rw [e]
  have far : ∀ k, Re (setP r i j ((p * 2 ^ (0 + 1) % (p + q) : Nat) : Int)) (setP r i j ((p * 2 ^ (0 + 1 + k) % (p + q) : Nat) : Int)) := fun k => by
    induction k with
    | zero => exact .refl
    | succ k ih =>
      obtain ⟨a, b, m, e⟩ := step (0 + 1 + k)
      have := Re.step ih m
      rw [e] at this
      exact this
  have hf := far (d - 1)
  rw [show 0 + 1 + (d - 1) = d by omega, fd, setP_id T] at hf
  exact hf
/-- a row comes again where not all amounts are halved as often -/
theorem round_iff {r : List Int} (nr : ∀ n ∈ r, 0 ≤ n) (hp : ∃ n ∈ r, 0 < n) : (∃ i j, MayG r i j ∧ Re (deed r i j) r) ↔ od r < (hold r r.length).length :=
  ⟨fun ⟨i, j, m, h⟩ => (Re.lv (deed_lv m nr) h).dbl rfl, round_back nr hp⟩
end MG

/-! MLa: ways of deeds, the least of the shortest ones, level by level. Pure mathematics. -/
namespace MG
open PySem PySem.Spec PyProof.Rows L2
abbrev Way := List (Int × Int)
def clt (c d : Int × Int) : Prop := c.1 < d.1 ∨ (c.1 = d.1 ∧ c.2 < d.2)
theorem clt_tri (c d : Int × Int) : c = d ∨ clt c d ∨ clt d c := by
  obtain ⟨a, b⟩ := c
  obtain ⟨x, y⟩ := d
  unfold clt
  dsimp only
  by_cases h1 : a = x
  · by_cases h2 : b = y
    · exact .inl (by rw [h1, h2])
    · omega
  · omega
theorem clt_trans {c d e : Int × Int} (h : clt c d) (k : clt d e) : clt c e := by
  unfold clt at *
  omega
theorem clt_irr {c : Int × Int} : ¬ clt c c := by
  unfold clt
  omega
/-- the lesser one of two ways of one length -/
def wlt : Way → Way → Prop
  | c :: v, d :: w => clt c d ∨ (c = d ∧ wlt v w)
  | _, _ => False
theorem wlt_irr : ∀ {u : Way}, ¬ wlt u u
  | [] => fun h => h
  | c :: u => fun h => by
    rcases h with h | ⟨_, h⟩
    · exact clt_irr h
    · exact wlt_irr h
theorem wlt_trans : ∀ {u v w : Way}, wlt u v → wlt v w → wlt u w
  | c :: u, d :: v, e :: w, h, k => by
    rcases h with h | ⟨rfl, h⟩
    · rcases k with k | ⟨rfl, k⟩
      · exact .inl (clt_trans h k)
      · exact .inl h
    · rcases k with k | ⟨rfl, k⟩
      · exact .inl k
      · exact .inr ⟨rfl, wlt_trans h k⟩
theorem wlt_tri : ∀ {u v : Way}, u.length = v.length → u = v ∨ wlt u v ∨ wlt v u
  | [], [], _ => .inl rfl
  | [], _ :: _, h => by simp at h
  | _ :: _, [], h => by simp at h
  | c :: u, d :: v, h => by
    rcases clt_tri c d with rfl | z | z
    · rcases wlt_tri (u := u) (v := v) (by simpa using h) with rfl | y | y
      · exact .inl rfl
      · exact .inr (.inl (.inr ⟨rfl, y⟩))
      · exact .inr (.inr (.inr ⟨rfl, y⟩))
    · exact .inr (.inl (.inl z))
    · exact .inr (.inr (.inl z))
theorem wlt_app : ∀ {u v : Way} (x y : Way), u.length = v.length → wlt u v → wlt (u ++ x) (v ++ y)
  | c :: u, d :: v, x, y, hl, h => by
    rcases h with h | ⟨rfl, h⟩
    · exact .inl h
    · exact .inr ⟨rfl, wlt_app x y (by simpa using hl) h⟩
theorem wlt_pre : ∀ (u : Way) {x y : Way}, wlt x y → wlt (u ++ x) (u ++ y)
  | [], _, _, h => h
  | c :: u, _, _, h => .inr ⟨rfl, wlt_pre u h⟩
theorem wlt_last {u : Way} {c d : Int × Int} (h : clt c d) : wlt (u ++ [c]) (u ++ [d]) := wlt_pre u (.inl h)
/-- the row behind a deed -/
def dd (r : List Int) (c : Int × Int) : List Int := deed r c.1.toNat c.2.toNat
/-- a way leads there -/
def Wk : List Int → Way → List Int → Prop
  | r, [], o => r = o
  | r, c :: w, o => c ∈ dl r ∧ Wk (dd r c) w o
theorem wk_app : ∀ {r o : List Int} {u v : Way}, Wk r (u ++ v) o ↔ ∃ m, Wk r u m ∧ Wk m v o
  | r, o, [], v => ⟨fun h => ⟨r, rfl, h⟩, fun ⟨m, h, k⟩ => by cases h; exact k⟩
  | r, o, c :: u, v => by
    constructor
    · rintro ⟨h, k⟩
      obtain ⟨m, a, b⟩ := wk_app.mp k
      exact ⟨m, ⟨h, a⟩, b⟩
    · rintro ⟨m, ⟨h, a⟩, b⟩
      exact ⟨h, wk_app.mpr ⟨m, a, b⟩⟩
theorem wk_det : ∀ {r o o' : List Int} {w : Way}, Wk r w o → Wk r w o' → o = o'
  | r, o, o', [], h, k => by cases h; cases k; rfl
  | r, o, o', c :: w, h, k => wk_det h.2 k.2
theorem wk_re {r o : List Int} : ∀ {w : Way} {m : List Int}, Re r m → Wk m w o → Re r o
  | [], m, h, k => by cases k; exact h
  | c :: w, m, h, k => by
    obtain ⟨i, j, rfl, mg⟩ := dl_may k.1
    exact wk_re (.step h mg) k.2
/-- the least of the shortest ways -/
def Ls (r o : List Int) (w : Way) : Prop := Wk r w o ∧ ∀ w', Wk r w' o → w.length < w'.length ∨ (w.length = w'.length ∧ (w = w' ∨ wlt w w'))
theorem Ls.unique {r o : List Int} {u w : Way} (a : Ls r o u) (b : Ls r o w) : u = w := by
  rcases a.2 w b.1 with h | ⟨h, h'⟩
  · rcases b.2 u a.1 with k | ⟨k, _⟩ <;> omega
  · rcases h' with h' | h'
    · exact h'
    · rcases b.2 u a.1 with k | ⟨k, k'⟩
      · omega
      · rcases k' with k' | k'
        · exact k'.symm
        · exact (wlt_irr (wlt_trans h' k')).elim
theorem ls_self (r : List Int) : Ls r r [] := ⟨rfl, fun w' _ => by
  cases w' with
  | nil => exact .inr ⟨rfl, .inl rfl⟩
  | cons c w => exact .inl (by simp)⟩
abbrev Ent := List Int × Way
/-- all that is come to by so many deeds at the most, each by the least of its shortest ways; the last ones of it in their order -/
structure Lev (s : List Int) (n : Nat) (E W : List Ent) : Prop where
  ls : ∀ e ∈ E, Ls s e.1 e.2
  le : ∀ e ∈ E, e.2.length ≤ n
  all : ∀ o w, Wk s w o → w.length ≤ n → o ∈ E.map Prod.fst
  wE : ∀ e ∈ W, e ∈ E ∧ e.2.length = n
  allW : ∀ e ∈ E, e.2.length = n → e ∈ W
  sorted : W.Pairwise fun a b => wlt a.2 b.2
  nd : (E.map Prod.fst).Nodup
theorem Lev.start (s : List Int) : Lev s 0 [(s, [])] [(s, [])] := by
  refine ⟨fun e he => ?_, fun e he => ?_, fun o w h hl => ?_, fun e he => ?_, fun e he _ => he, by simp, by simp⟩
  · rw [List.mem_singleton] at he; subst he; exact ls_self s
  · rw [List.mem_singleton] at he; subst he; exact Nat.le_refl 0
  · cases w with
    | nil => cases h; simp
    | cons c w => simp at hl
  · rw [List.mem_singleton] at he; subst he; simp
/-- the rows by one deed more, in the order in which they are tried -/
def cnd (W : List Ent) : List Ent := W.flatMap fun e => (dl e.1).map fun c => (dd e.1 c, e.2 ++ [c])
/-- amid a level: what is tried already, what was new -/
structure Mdl (E0 C E B : List Ent) : Prop where
  eq : E = E0 ++ B
  sub : ∀ e ∈ B, e ∈ C ∧ e.1 ∉ E0.map Prod.fst
  cov : ∀ e ∈ C, e.1 ∈ E.map Prod.fst
  fst : ∀ e ∈ B, ∀ e' ∈ C, e'.1 = e.1 → e' = e ∨ wlt e.2 e'.2
  sl : B.Sublist C
  nd : (E.map Prod.fst).Nodup
theorem Mdl.start {E0 : List Ent} (nd : (E0.map Prod.fst).Nodup) : Mdl E0 [] E0 [] := ⟨by simp, (fun e he => nomatch he), (fun e he => nomatch he), (fun e he => nomatch he), List.Sublist.refl _, nd⟩
/-- one tried whose row is there already -/
theorem Mdl.old {E0 C E B : List Ent} {x : Ent} (h : Mdl E0 C E B) (lt : ∀ e ∈ C, wlt e.2 x.2) (hx : x.1 ∈ E.map Prod.fst) : Mdl E0 (C ++ [x]) E B := by
  refine ⟨h.eq, fun e he => ⟨List.mem_append_left _ (h.sub e he).1, (h.sub e he).2⟩, fun e he => ?_, fun e he e' he' hr => ?_, h.sl.trans (List.sublist_append_left _ _), h.nd⟩
  · rcases List.mem_append.mp he with z | z
    · exact h.cov e z
    · rw [List.mem_singleton] at z; rw [z]; exact hx
  · rcases List.mem_append.mp he' with z | z
    · exact h.fst e he e' z hr
    · rw [List.mem_singleton] at z
      rw [z]
      exact .inr (lt e (h.sub e he).1)
/-- one tried whose row is new -/
theorem Mdl.new {E0 C E B : List Ent} {x : Ent} (h : Mdl E0 C E B) (lt : ∀ e ∈ C, wlt e.2 x.2) (hx : x.1 ∉ E.map Prod.fst) : Mdl E0 (C ++ [x]) (E ++ [x]) (B ++ [x]) := by
  have ex : (E ++ [x]).map Prod.fst = E.map Prod.fst ++ [x.1] := by rw [List.map_append]; rfl
  refine ⟨by rw [h.eq, List.append_assoc], fun e he => ?_, fun e he => ?_, fun e he e' he' hr => ?_, List.Sublist.append h.sl (List.Sublist.refl _), ?_⟩
  · rcases List.mem_append.mp he with z | z
    · exact ⟨List.mem_append_left _ (h.sub e z).1, (h.sub e z).2⟩
    · rw [List.mem_singleton] at z
      rw [z]
      exact ⟨List.mem_append_right _ List.mem_cons_self, fun y => hx (by rw [h.eq, List.map_append]; exact List.mem_append_left _ y)⟩
  · rw [ex]
    rcases List.mem_append.mp he with z | z
    · exact List.mem_append_left _ (h.cov e z)
    · rw [List.mem_singleton] at z
      rw [z]; exact List.mem_append_right _ List.mem_cons_self
  · rcases List.mem_append.mp he with z | z
    · rcases List.mem_append.mp he' with y | y
      · exact h.fst e z e' y hr
      · rw [List.mem_singleton] at y
        rw [y]
        exact .inr (lt e (h.sub e z).1)
    · rw [List.mem_singleton] at z
      subst z
      rcases List.mem_append.mp he' with y | y
      · exact (hx (hr ▸ h.cov e' y)).elim
      · rw [List.mem_singleton] at y
        exact .inl y
  · rw [ex]
    refine List.nodup_append.mpr ⟨h.nd, by simp, fun a ha b hb z => ?_⟩
    rw [z, List.mem_singleton.mp hb] at ha
    exact hx ha
/-- the level is done -/
theorem Lev.next {s : List Int} {n : Nat} {E0 W E B : List Ent} (L : Lev s n E0 W) (M : Mdl E0 (cnd W) E B) (srt : (cnd W).Pairwise fun a b => wlt a.2 b.2) : Lev s (n + 1) E B := by
  have inC : ∀ e ∈ W, ∀ c ∈ dl e.1, (dd e.1 c, e.2 ++ [c]) ∈ cnd W := fun e he c hc => List.mem_flatMap.mpr ⟨e, he, List.mem_map_of_mem hc⟩
  have ofC : ∀ x ∈ cnd W, ∃ e ∈ W, ∃ c ∈ dl e.1, x = (dd e.1 c, e.2 ++ [c]) := fun x hx => by
    obtain ⟨e, he, hx⟩ := List.mem_flatMap.mp hx
    obtain ⟨c, hc, rfl⟩ := List.mem_map.mp hx
    exact ⟨e, he, c, hc, rfl⟩
  -- a walk of n + 1 deeds to a row that wasn't there
  have long : ∀ o w, Wk s w o → w.length = n + 1 → o ∉ E0.map Prod.fst → ∃ e ∈ W, ∃ d ∈ dl e.1, o = dd e.1 d ∧ (e.2 ++ [d] = w ∨ wlt (e.2 ++ [d]) w) := by
    intro o w hw hl ho
    obtain ⟨u, d, rfl⟩ : ∃ u d, w = u ++ [d] := ⟨w.dropLast, w.getLast (by intro z; rw [z] at hl; simp at hl), (List.dropLast_concat_getLast _).symm⟩
    rw [List.length_append, List.length_singleton] at hl
    obtain ⟨m, hu, hd, ho'⟩ := wk_app.mp hw
    have hm := L.all m u hu (by omega)
    obtain ⟨e, he, rfl⟩ := List.mem_map.mp hm
    have le := L.ls e he
    have hlen : e.2.length = n := by
      refine Classical.byContradiction fun z => ho ?_
      have := L.le e he
      refine L.all o (e.2 ++ [d]) (wk_app.mpr ⟨e.1, le.1, hd, ho'⟩) ?_
      rw [List.length_append, List.length_singleton]
      omega
    refine ⟨e, L.allW e he hlen, d, hd, ho'.symm, ?_⟩
    rcases le.2 u hu with z | ⟨z, y | y⟩
    · omega
    · rw [y]; exact .inl rfl
    · exact .inr (wlt_app _ _ z y)
  have lenB : ∀ e ∈ B, e.2.length = n + 1 := fun e he => by
    obtain ⟨f, hf, c, hc, rfl⟩ := ofC e (M.sub e he).1
    rw [List.length_append, (L.wE f hf).2]
    rfl
  have mE : ∀ e, e ∈ E ↔ e ∈ E0 ∨ e ∈ B := fun e => by rw [M.eq, List.mem_append]
  refine ⟨fun e he => ?_, fun e he => ?_, fun o w h hl => ?_, fun e he => ⟨(mE e).mpr (.inr he), lenB e he⟩, fun e he hl => ?_, srt.sublist M.sl, M.nd⟩
  · rcases (mE e).mp he with z | z
    · exact L.ls e z
    · obtain ⟨hC, hE0⟩ := M.sub e z
      have hlen := lenB e z
      obtain ⟨f, hf, c, hc, rfl⟩ := ofC e hC
      refine ⟨wk_app.mpr ⟨f.1, (L.ls f (L.wE f hf).1).1, hc, rfl⟩, fun w' hw' => ?_⟩
      have h1 : n < w'.length := by
        refine Classical.byContradiction fun y => hE0 (L.all _ w' hw' (by omega))
      by_cases h2 : w'.length = n + 1
      · refine .inr ⟨by omega, ?_⟩
        obtain ⟨g, hg, d, hd, eo, hle⟩ := long _ w' hw' h2 hE0
        have k := M.fst _ z _ (inC g hg d hd) eo.symm
        rcases k with k | k
        · have k2 := congrArg Prod.snd k
          dsimp only at k2
          rw [← k2]
          exact hle
        · dsimp only at k
          rcases hle with y | y
          · rw [← y]; exact .inr k
          · exact .inr (wlt_trans k y)
      · exact .inl (by omega)
  · rcases (mE e).mp he with z | z
    · have := L.le e z; omega
    · have := lenB e z; omega
  · by_cases ho : o ∈ E0.map Prod.fst
    · rw [M.eq, List.map_append]; exact List.mem_append_left _ ho
    · have : w.length = n + 1 := by
        refine Classical.byContradiction fun y => ho (L.all o w h (by omega))
      obtain ⟨g, hg, d, hd, eo, _⟩ := long o w h this ho
      rw [eo]
      exact M.cov _ (inC g hg d hd)
  · rcases (mE e).mp he with z | z
    · have := L.le e z; omega
    · exact z
/-- nothing is new: all is there -/
theorem Lev.done {s : List Int} {n : Nat} {E : List Ent} (L : Lev s n E []) {o : List Int} : ∀ {w : Way}, Wk s w o → o ∈ E.map Prod.fst := by
  have step : ∀ {v : Way} {m : List Int}, m ∈ E.map Prod.fst → Wk m v o → o ∈ E.map Prod.fst := by
    intro v
    induction v with
    | nil => intro m hm h; cases h; exact hm
    | cons c v ih =>
      intro m hm h
      refine ih ?_ h.2
      obtain ⟨e, he, rfl⟩ := List.mem_map.mp hm
      have hl : e.2.length ≠ n := fun z => nomatch L.allW e he z
      have := L.le e he
      exact L.all _ (e.2 ++ [c]) (wk_app.mpr ⟨e.1, (L.ls e he).1, h.1, rfl⟩) (by rw [List.length_append, List.length_singleton]; omega)
  intro w h
  exact step (L.all s [] rfl (Nat.zero_le _)) h
theorem dl_sorted (ns : List Int) : (dl ns).Pairwise clt := by
  have hs : (hold ns ns.length).Pairwise (· < ·) := by
    unfold hold
    exact List.Pairwise.map _ (fun a b hab => by omega) (List.Pairwise.filter _ List.pairwise_lt_range)
  unfold dl dlL
  generalize hold ns ns.length = us at hs
  have : ∀ (L : List Int), L.Pairwise (· < ·) → (L.flatMap (rowD ns us)).Pairwise clt := by
    intro L
    induction L with
    | nil => intro _; exact List.Pairwise.nil
    | cons a L ih =>
      intro hp
      rw [List.flatMap_cons, List.pairwise_append]
      obtain ⟨h1, h2⟩ := List.pairwise_cons.mp hp
      refine ⟨?_, ih h2, fun c hc d hd => ?_⟩
      · unfold rowD
        exact List.Pairwise.map _ (fun x y hxy => .inr ⟨rfl, hxy⟩) (hs.filter _)
      · obtain ⟨b, hb, hd⟩ := List.mem_flatMap.mp hd
        unfold rowD at hc hd
        obtain ⟨x, _, rfl⟩ := List.mem_map.mp hc
        obtain ⟨y, _, rfl⟩ := List.mem_map.mp hd
        exact .inl (h1 b hb)
  exact this us hs
theorem cnd_sorted {n : Nat} : ∀ {W : List Ent}, (∀ e ∈ W, e.2.length = n) → (W.Pairwise fun a b => wlt a.2 b.2) → (cnd W).Pairwise fun a b => wlt a.2 b.2
  | [], _, _ => List.Pairwise.nil
  | e :: W, hl, hp => by
    obtain ⟨h1, h2⟩ := List.pairwise_cons.mp hp
    unfold cnd
    rw [List.flatMap_cons, List.pairwise_append]
    refine ⟨?_, cnd_sorted (fun x hx => hl x (List.mem_cons_of_mem _ hx)) h2, fun c hc d hd => ?_⟩
    · exact List.Pairwise.map _ (fun x y hxy => wlt_last hxy) (dl_sorted e.1)
    · obtain ⟨x, _, rfl⟩ := List.mem_map.mp hc
      obtain ⟨f, hf, hd⟩ := List.mem_flatMap.mp hd
      obtain ⟨y, _, rfl⟩ := List.mem_map.mp hd
      exact wlt_app _ _ ((hl e List.mem_cons_self).trans (hl f (List.mem_cons_of_mem _ hf)).symm) (h1 f hf)
end MG
namespace MG
open PySem PySem.Spec PyProof.Rows L2
/-! ### few rows, a dict of rows -/
def encB (B : Nat) : List Int → Nat
  | [] => 0
  | x :: l => x.toNat + (B + 1) * encB B l
theorem encB_lt {B : Nat} : ∀ {l : List Int}, (∀ x ∈ l, x ≤ B) → encB B l < (B + 1) ^ l.length
  | [], _ => by unfold encB; simp
  | x :: l, h => by
    have ih := encB_lt (l := l) fun y hy => h y (List.mem_cons_of_mem _ hy)
    have hx := h x List.mem_cons_self
    unfold encB
    rw [List.length_cons, Nat.pow_succ, Nat.mul_comm ((B + 1) ^ l.length)]
    have : (B + 1) * (encB B l + 1) ≤ (B + 1) * (B + 1) ^ l.length := Nat.mul_le_mul_left _ ih
    rw [Nat.mul_add, Nat.mul_one] at this
    omega
theorem encB_inj {B : Nat} : ∀ {a b : List Int}, a.length = b.length → (∀ x ∈ a, 0 ≤ x ∧ x ≤ B) → (∀ x ∈ b, 0 ≤ x ∧ x ≤ B) → encB B a = encB B b → a = b
  | [], [], _, _, _, _ => rfl
  | [], _ :: _, h, _, _, _ => by simp at h
  | _ :: _, [], h, _, _, _ => by simp at h
  | x :: a, y :: b, hl, ha, hb, e => by
    have hx := ha x List.mem_cons_self
    have hy := hb y List.mem_cons_self
    unfold encB at e
    have h1 : x.toNat = y.toNat := by
      have := congrArg (· % (B + 1)) e
      simp only [Nat.add_mul_mod_self_left] at this
      rw [Nat.mod_eq_of_lt (by omega), Nat.mod_eq_of_lt (by omega)] at this
      exact this
    have : x = y := by omega
    subst this
    have h2 : encB B a = encB B b := Nat.eq_of_mul_eq_mul_left (show 0 < B + 1 by omega) (by omega)
    rw [encB_inj (by simpa using hl) (fun z hz => ha z (List.mem_cons_of_mem _ hz)) (fun z hz => hb z (List.mem_cons_of_mem _ hz)) h2]
theorem few_rowsB {B n : Nat} {F : List (List Int)} (nd : F.Nodup) (h : ∀ o ∈ F, o.length = n ∧ ∀ x ∈ o, 0 ≤ x ∧ x ≤ B) : F.length ≤ (B + 1) ^ n := by
  have e := few_below ((B + 1) ^ n) (F.map (encB B)) (by
    rw [List.Nodup, List.pairwise_map]
    refine List.Pairwise.imp_of_mem ?_ nd
    intro a b ha hb hne z
    exact hne (encB_inj ((h a ha).1.trans (h b hb).1.symm) (h a ha).2 (h b hb).2 z)) fun x hx => by
    obtain ⟨o, ho, rfl⟩ := List.mem_map.mp hx
    have := encB_lt (B := B) (l := o) fun y hy => ((h o ho).2 y hy).2
    rw [(h o ho).1] at this
    exact this
  rw [List.length_map] at e
  exact e
/-- a dict of rows, with any values -/
def dV : List Ent → List V → List (List Key × V)
  | e :: E, v :: vs => (kR e.1, v) :: dV E vs
  | _, _ => []
theorem dV_len : ∀ {E : List Ent} {vs : List V}, vs.length = E.length → (dV E vs).length = E.length
  | [], [], _ => rfl
  | [], _ :: _, h => by simp at h
  | _ :: _, [], h => by simp at h
  | e :: E, v :: vs, h => by
    rw [dV, List.length_cons, List.length_cons, dV_len (by simpa using h)]
theorem dV_snoc : ∀ {E : List Ent} {vs : List V} (x : Ent) (v : V), vs.length = E.length → dV (E ++ [x]) (vs ++ [v]) = dV E vs ++ [(kR x.1, v)]
  | [], [], _, _, _ => rfl
  | [], _ :: _, _, _, h => by simp at h
  | _ :: _, [], _, _, h => by simp at h
  | e :: E, u :: vs, x, v, h => by
    show (kR e.1, u) :: dV (E ++ [x]) (vs ++ [v]) = (kR e.1, u) :: (dV E vs ++ [(kR x.1, v)])
    rw [dV_snoc x v (by simpa using h)]
theorem dV_none {o : List Int} : ∀ {E : List Ent} {vs : List V}, o ∉ E.map Prod.fst → valV (dV E vs) (kR o) = none
  | [], _, _ => by unfold dV; rfl
  | _ :: _, [], _ => by unfold dV; rfl
  | e :: E, v :: vs, h => by
    rw [List.map_cons, List.mem_cons, not_or] at h
    rw [dV, valV_neg (fun z => h.1 (kR_inj z).symm)]
    exact dV_none h.2
theorem dV_some : ∀ {E : List Ent} {vs : List V} {e : Ent}, vs.length = E.length → e ∈ E → (E.map Prod.fst).Nodup → ∃ (i : Nat) (v : V), E[i]? = some e ∧ vs[i]? = some v ∧ valV (dV E vs) (kR e.1) = some v
  | [], _, _, _, h, _ => nomatch h
  | _ :: _, [], _, h, _, _ => by simp at h
  | f :: E, v :: vs, e, hl, h, nd => by
    rw [List.map_cons, List.nodup_cons] at nd
    rcases List.mem_cons.mp h with rfl | h
    · exact ⟨0, v, rfl, rfl, by rw [dV, valV_pos rfl]⟩
    · obtain ⟨i, u, h1, h2, h3⟩ := dV_some (vs := vs) (by simpa using hl) h nd.2
      refine ⟨i + 1, u, h1, h2, ?_⟩
      rw [dV, valV_neg (fun z => nd.1 (by rw [kR_inj z]; exact List.mem_map_of_mem h))]
      exact h3
/-- what is kept with a row: nothing with the first one; else the row ahead and the deed -/
def EntV (s : List Int) (E : List Ent) (H : Hp) (e : Ent) (v : V) : Prop :=
  (e = (s, []) ∧ v = .non) ∨ ∃ (f : Ent) (c : Int × Int) (t ra da : Addr), f ∈ E ∧ e.2 = f.2 ++ [c] ∧ v = .ref t ∧ H t = some (.tup [.ref ra, .ref da]) ∧ H ra = some (.tup (f.1.map V.int)) ∧ H da = some (.tup [.int c.1, .int c.2])
structure CameAt (s : List Int) (H : Hp) (D : Addr) (E : List Ent) : Prop where
  ex : ∃ vs : List V, vs.length = E.length ∧ H D = some (.dT (dV E vs)) ∧ ∀ (i : Nat) (e : Ent) (v : V), E[i]? = some e → vs[i]? = some v → EntV s E H e v
theorem EntV.mono {s : List Int} {E E' : List Ent} {H H' : Hp} {e : Ent} {v : V} (h : EntV s E H e v) (k : ∀ a xs, H a = some (.tup xs) → H' a = some (.tup xs)) (sub : ∀ f ∈ E, f ∈ E') : EntV s E' H' e v := by
  rcases h with h | ⟨f, c, t, ra, da, h1, h2, h3, h4, h5, h6⟩
  · exact .inl h
  · exact .inr ⟨f, c, t, ra, da, sub f h1, h2, h3, k _ _ h4, k _ _ h5, k _ _ h6⟩
theorem CameAt.mono {s : List Int} {E : List Ent} {H H' : Hp} {D : Addr} (h : CameAt s H D E) (k : ∀ a xs, H a = some (.tup xs) → H' a = some (.tup xs)) (hD : H' D = H D) : CameAt s H' D E := by
  obtain ⟨vs, h1, h2, h3⟩ := h.ex
  exact ⟨vs, h1, by rw [hD]; exact h2, fun i e v he hv => (h3 i e v he hv).mono k fun f hf => hf⟩
theorem CameAt.same {s : List Int} {E : List Ent} {H H' : Hp} {D : Addr} (h : CameAt s H D E) (k : Same H H') : CameAt s H' D E := by
  obtain ⟨vs, h1, h2, h3⟩ := h.ex
  exact ⟨vs, h1, k _ _ h2, fun i e v he hv => (h3 i e v he hv).mono (fun a xs z => k _ _ z) fun f hf => hf⟩
theorem CameAt.put {s : List Int} {E : List Ent} {H : Hp} {D : Addr} {vs : List V} {x : Ent} {v : V} (h1 : vs.length = E.length) (h2 : H D = some (.dT (dV E vs))) (h3 : ∀ (i : Nat) (e : Ent) (v : V), E[i]? = some e → vs[i]? = some v → EntV s E H e v) (hx : EntV s E H x v) :
    CameAt s (upd H D (.dT (dV E vs ++ [(kR x.1, v)]))) D (E ++ [x]) := by
  have k : ∀ a xs, H a = some (.tup xs) → upd H D (.dT (dV E vs ++ [(kR x.1, v)])) a = some (.tup xs) := fun a xs e => by
    rw [upd_ne (fun z => by rw [z, h2] at e; cases e)]
    exact e
  refine ⟨vs ++ [v], by rw [List.length_append, List.length_append, h1]; rfl, by rw [upd_same, dV_snoc x v h1], fun i e u he hu => ?_⟩
  have sub : ∀ f ∈ E, f ∈ E ++ [x] := fun f hf => List.mem_append_left _ hf
  by_cases hi : i < E.length
  · rw [List.getElem?_append_left hi] at he
    rw [List.getElem?_append_left (by omega)] at hu
    exact (h3 i e u he hu).mono k sub
  · rw [List.getElem?_append_right (by omega)] at he
    rw [List.getElem?_append_right (by omega), h1] at hu
    cases z : i - E.length with
    | zero =>
      rw [z] at he hu
      obtain rfl : x = e := Option.some.inj he
      obtain rfl : v = u := Option.some.inj hu
      exact hx.mono k sub
    | succ m => rw [z] at he; cases he
end MG

namespace K56
open PySem PySem.Spec PyProof.Rows L2 MG
abbrev sAll : Stmt := topS 60
abbrev nAll : List Str := ["_law_row_here", "_law_found", "_law_last", "_law_more", "_law_here", "_law_there"]
theorem scAll : FnScope ["_law_row_here", "_law_found", "_law_last", "_law_more", "_law_here", "_law_there"] ["_law_row_here"] (defScope sAll) := ⟨rfl, rfl, rfl, by decide +kernel, rfl, by decide +kernel, by decide +kernel⟩
section
variable {P : Program} {w : World} {K : PySem.W.Frag} {mg : Str → Option Value} {base : Heap}
def TsR (H : Hp) (ts : List Addr) (R : List (List Int)) : Prop := ts.length = R.length ∧ ∀ (i : Nat) (t : Addr) (r : List Int), ts[i]? = some t → R[i]? = some r → H t = some (.tup (r.map V.int))
theorem TsR.mono {H H' : Hp} {ts : List Addr} {R : List (List Int)} (h : TsR H ts R) (s : ∀ a xs, H a = some (.tup xs) → H' a = some (.tup xs)) : TsR H' ts R := ⟨h.1, fun i t r a b => s _ _ (h.2 i t r a b)⟩
theorem TsR.snoc {H : Hp} {ts : List Addr} {R : List (List Int)} {t : Addr} {r : List Int} (h : TsR H ts R) (e : H t = some (.tup (r.map V.int))) : TsR H (ts ++ [t]) (R ++ [r]) := ⟨by rw [List.length_append, List.length_append, h.1]; rfl, fun i t' r' a c => by
  by_cases hi : i < ts.length
  · rw [List.getElem?_append_left hi] at a
    rw [List.getElem?_append_left (by rw [← h.1]; exact hi)] at c
    exact h.2 i t' r' a c
  · rw [List.getElem?_append_right (by omega)] at a
    rw [List.getElem?_append_right (by rw [← h.1]; omega), ← h.1] at c
    match i - ts.length, a, c with
    | 0, a, c => cases a; cases c; exact e⟩
def rowP (r : List Int) : PyData := .tuple (r.map PyData.int)
theorem dp_rows {H : Hp} {ts : List Addr} {R : List (List Int)} (h : TsR H ts R) : DpAll K H (ts.map V.ref) (R.map rowP) := by
  induction ts generalizing R with
  | nil =>
    match R, h with
    | [], _ => exact .nil
    | _ :: _, h => have := h.1; simp at this
  | cons t ts ih =>
    match R, h with
    | [], h => have := h.1; simp at this
    | r :: R, h => exact .cons (.tup (SqT.of (h.2 0 t r rfl rfl)) (dpInts r)) (ih ⟨by have := h.1; simpa using this, fun i t' r' a b => h.2 (i + 1) t' r' a b⟩)
theorem lay_rows : ∀ R : List (List Int), PyData.canLayAll0 (R.map rowP) = true
  | [] => rfl
  | r :: R => by
    rw [List.map_cons, PyData.canLayAll0, lay_rows R]
    show (PyData.canLay0 (.tuple (r.map PyData.int)) && true) = true
    rw [PyData.canLay0, lay_ints]; rfl
theorem depth_rows : ∀ R : List (List Int), PyData.depthAll (R.map rowP) ≤ 1
  | [] => by decide
  | r :: R => by
    have ih := depth_rows R
    rw [List.map_cons, PyData.depthAll]
    have : PyData.depth (rowP r) = 1 := by
      show PyData.depth (.tuple (r.map PyData.int)) = 1
      rw [PyData.depth, depth_ints]
    rw [this]
    omega
theorem shaped_rows (R : List (List Int)) : SeqAt.shaped (.list (R.map rowP)) = true := by
  have h := depth_rows R
  unfold SeqAt.shaped
  rw [PyData.canLay0, lay_rows, PyData.depth]
  simp
  omega
def lenD (o : Option HO) : Nat := match o with | some (.dT kvs) => kvs.length | _ => 0
def fullL (o : Option HO) : Nat := match o with | some (.lst (_ :: _)) => 1 | _ => 0
def muB (D : Addr) (σ : List (Option V)) (G : Hp) : Nat := 2 * (10000000 - lenD (G D)) + (match σ[2]? with | some (some (V.ref l)) => fullL (G l) | _ => 0)
def spAll : Sp := fun vs H Q _ => ∃ (a : Addr) (ns : List Int), vs = [.ref a] ∧ H a = some (.tup (ns.map V.int)) ∧ (∀ n ∈ ns, 0 ≤ n) ∧ ns.length ≤ 6 ∧ (ns.sum.toNat + 1) ^ ns.length ≤ 10000000 ∧
  ∀ p H' (E : List (List Int × Int)), H p = none → Same H H' → H' p = some (.dT (E.map dE)) → (∀ o, o ∈ E.map Prod.fst ↔ Re ns o) → E.length ≤ 10000000 → Q (.ref p) H'
theorem ok_all {f fN : Addr} {fd fdN : FuncData} {k : Nat} (F : Fun K "_law_all_of" "_law_all_of" sAll f fd)
    (FN : Fun K "_law_next" "_law_next" sNext fN fdN) (bN : Binds K fdN ["_law_row_here"] []) (gN : mg "_law_next" = some (.ref fN)) (GN : FnOk P w K mg base CX0 (k + 2) fN fdN ["_law_row_here"] spNext) : FnOk P w K mg base CX0 (k + 3) f fd ["_law_row_here"] spAll := by
  refine F.ok scAll (fun vs H Q E h => ?_) (fun cdv A outer s H vs Q E hr h => ?_)
  · obtain ⟨a, ns, rfl, _⟩ := h
    rfl
  · obtain ⟨a, ns, rfl, ea, nn, hl, hS, q⟩ := h
    have hr2 := hr
    have hu : (A.deeper (envOfC "_law_all_of" (defScope sAll) s.heap.objs.size f cdv)).units + 1 < cLine := by have := hr.un; omega
    refine ⟨_, pss_cons (ps_par (i := 1) (j := 2) rfl scAll.nd rfl rfl (by decide) rfl rfl (pa_cons (pe_dispT hu (pv 0) pe_int) (pa_cons (pe_lst (pa_cons (pv 0) pa_nil)) pa_nil)) (by rfl))
      (pss_cons (ps_while PassesOwn.never (pt_cmpR (op_neD hr.units) (pv 2) (pe_lst pa_nil) (nomark _)) (pss_cons (ps_set (i := 3) scAll.nd rfl (.inl rfl) (pe_lst pa_nil))
      (pss_cons (ps_for PassesOwn.never rfl (pi_list (pv 2)) (pg_name (i := 4) scAll.nd rfl (.inl rfl)) (pss_one (ps_for PassesOwn.never rfl (pi_list (pe_call GN hr2 (by rfl) gN FN.kp bN .nil pass0 (pa_cons (pv 4) pa_nil))) (pg_name (i := 5) scAll.nd rfl (.inl rfl)) (pss_one (ps_if (pt_cmp (pc_dnotin hu (pv 5) (pv 1))) (pss_cons (ps_dput hu (pv 1) (pv 5) (pe_op op_add (pe_dget hu (pv 1) (pv 4) (fun _ _ => rfl)) pe_int) rfl)
      (pss_one (ps_expr (pe_bm PySem.F.plainAttrs_list PySem.F.slot_list_append PySem.F.type_list_append mt_append (pv 3) (pa_cons (pv 5) pa_nil))))) pss_nil)))))
      (pss_one (ps_set (i := 2) scAll.nd rfl (.inl rfl) (pv 3))))))
      (pss_one (ps_ret (pv 1)))), ?_⟩
    intro D nD
    have s1 : Same H (upd H D (.dT [])) := same_upd nD
    refine ⟨_, rfl, upd_same, a, kR ns, rfl, by rw [kR_map]; exact s1 _ _ ea, ?_⟩
    have s2 : Same H (upd (upd H D (.dT [])) D (.dT [(kR ns, V.int 0)])) := fun c o hc => by rw [upd_ne (ne_of_none hc nD)]; exact s1 c o hc
    have eD2 : upd (upd H D (.dT [])) D (.dT [(kR ns, V.int 0)]) D = some (.dT (([(ns, 0)] : List (List Int × Int)).map dE)) := upd_same
    generalize upd (upd H D (.dT [])) D (.dT [(kR ns, V.int 0)]) = H2 at s2 eD2 ⊢
    refine ⟨_, rfl, by show 1 ≤ sizeLine; decide, fun La nLa => ⟨_, _, rfl, ?_⟩⟩
    have s3 : Same H (upd H2 La (.lst [.ref a])) := s2.trans (same_upd nLa)
    have eL3 : upd H2 La (.lst [.ref a]) La = some (.lst (([a] : List Addr).map V.ref)) := upd_same
    have eD3 : upd H2 La (.lst [.ref a]) D = some (.dT (([(ns, 0)] : List (List Int × Int)).map dE)) := same_upd nLa _ _ eD2
    generalize upd H2 La (.lst [.ref a]) = H3 at s3 eL3 eD3 ⊢
    have few : ∀ {F : List (List Int)}, F.Nodup → (∀ o ∈ F, Re ns o) → F.length ≤ 10000000 := fun {F} nd hre => by
      have h1 := few_rowsB (B := ns.sum.toNat) (n := ns.length) nd fun o ho => ⟨((hre o ho).keeps nn).1, fun x hx => ⟨((hre o ho).keeps nn).2.2 x hx, by
        have h2 := mem_le_sumG ((hre o ho).keeps nn).2.2 x hx
        have h3 := ((hre o ho).keeps nn).2.1
        omega⟩⟩
      exact Nat.le_trans h1 hS
    refine while_by (fun σ G => ∃ (E : List (List Int × Int)) (La : Addr) (ts : List Addr) (L : List (List Int)) (y3 y4 y5 : Option V), σ = [some (.ref a), some (.ref D), some (.ref La), y3, y4, y5] ∧ Same H G ∧ G D = some (.dT (E.map dE)) ∧ G La = some (.lst (ts.map V.ref)) ∧ TsR G ts L ∧
        (E.map Prod.fst).Nodup ∧ (∀ o ∈ E.map Prod.fst, Re ns o) ∧ ns ∈ E.map Prod.fst ∧ (∀ o ∈ L, o ∈ E.map Prod.fst) ∧ ∀ o ∈ E.map Prod.fst, o ∉ L → ∀ i j, MayG o i j → deed o i j ∈ E.map Prod.fst)
      (muB D)
      ⟨[(ns, 0)], La, [a], [ns], _, _, _, rfl, s3, eD3, eL3, ⟨rfl, fun i t r h1 h2 => by
        match i, h1, h2 with
        | 0, h1, h2 => cases h1; cases h2; exact s3 _ _ ea⟩, by simp, fun o ho => by rw [List.mem_singleton.mp ho]; exact .refl, List.mem_cons_self, fun o ho => ho, fun o ho hn => absurd ho hn⟩ ?_ ?_
    · rintro σ G ⟨E, La, ts, L, y3, y4, y5, rfl, sG, eD, eL, hT, nd, hre, h0, hL, hc⟩
      refine ⟨_, rfl, by show 0 ≤ sizeLine; decide, fun e ne => ?_⟩
      have se : Same G (upd G e (.lst [])) := same_upd ne
      have ge : upd G e (.lst []) e = some (.lst []) := upd_same
      generalize upd G e (HO.lst []) = G1 at se ge ⊢
      have hT1 : TsR G1 ts L := hT.mono fun c xs hc => se _ _ hc
      refine ⟨.list (L.map rowP), .list [], .lst (SqL.of (se _ _ eL)) (dp_rows hT1), .lst (SqL.of ge) .nil, shaped_rows L, rfl, _, rfl, ?_⟩
      cases L with
      | nil =>
        refine iteF ⟨_, rfl, q D G1 E nD (sG.trans se) (se _ _ eD) (fun o => ⟨fun ho => hre o ho, fun ho => re_in h0 (fun o ho i j m => hc o ho (by simp) i j m) ho⟩) (by have := few nd hre; rw [List.length_map] at this; exact this)⟩
      | cons l0 L0 =>
        rw [show (!PyData.eqv (.list ((l0 :: L0).map rowP)) (.list [])) = true from rfl]
        refine iteT ?_
        generalize hLL : l0 :: L0 = L at *
        have tl : 0 < ts.length := by rw [hT.1, ← hLL]; simp
        refine ⟨by show 0 ≤ sizeLine; decide, fun Mo nMo => ?_⟩
        have s1 : Same G (upd G1 Mo (.lst [])) := se.trans (same_upd nMo)
        have eM2 : upd G1 Mo (.lst []) Mo = some (.lst (([] : List Addr).map V.ref)) := upd_same
        have hMD : D ≠ Mo := ne_of_none (se _ _ eD) nMo
        have hML : La ≠ Mo := ne_of_none (se _ _ eL) nMo
        have nMH : H Mo = none := (sG.trans se).free nMo
        generalize upd G1 Mo (HO.lst []) = G2 at s1 eM2 ⊢
        have hLD : La ≠ D := fun z => by rw [z, eD] at eL; cases eL
        -- what stays
        have hEl : E.length ≤ 10000000 := by
          have := few nd hre
          rw [List.length_map] at this
          exact this
        refine ⟨_, rfl, La, rfl, ⟨_, SqL.of (s1 _ _ eL)⟩, ?_⟩
        refine for_list (K := K) (a := La) (xs := ts.map V.ref) (fun m σ G' => ∃ (E' : List (List Int × Int)) (ms : List Addr) (M : List (List Int)) (y4 y5 : Option V), σ = [some (.ref a), some (.ref D), some (.ref La), some (.ref Mo), y4, y5] ∧ Same H G' ∧ G' D = some (.dT (E'.map dE)) ∧ G' La = some (.lst (ts.map V.ref)) ∧ TsR G' ts L ∧ G' Mo = some (.lst (ms.map V.ref)) ∧ TsR G' ms M ∧ Mid ns (E.map Prod.fst) E' M ∧ ∀ x, x < m → ∀ l, L[x]? = some l → ∀ i j, MayG l i j → deed l i j ∈ E'.map Prod.fst) ?_ ?_ ?_ ?_
        · exact ⟨E, [], [], _, _, rfl, sG.trans s1, s1 _ _ eD, s1 _ _ eL, hT.mono fun c xs hc => s1 _ _ hc, eM2, ⟨rfl, fun i t r h1 _ => by cases h1⟩, ⟨nd, hre, fun o ho => ho, fun o ho => .inl ho, fun o ho => (by cases ho), by rw [List.length_map]; rfl⟩, fun x hx => absurd hx (Nat.not_lt_zero _)⟩
        · rintro m σ G' _ ⟨E', ms, M, y4, y5, rfl, sG', eD', eL', _⟩
          exact SqL.of eL'
        · rintro m x σ G' hx ⟨E', ms, M, y4, y5, rfl, sG', eD', eL', hT', eM', hTM, mid, done⟩
          rw [List.getElem?_map] at hx
          obtain ⟨t, ht, rfl⟩ := Option.map_eq_some_iff.mp hx
          have hmt : m < ts.length := (List.getElem?_eq_some_iff.mp ht).1
          have hlm : L[m]? = some (L[m]'(by rw [← hT.1]; exact hmt)) := List.getElem?_eq_getElem _
          generalize L[m]'(by rw [← hT.1]; exact hmt) = l at hlm
          have el := hT'.2 m t l ht hlm
          have hlE := mid.sub l (hL l (List.mem_of_getElem? hlm))
          have hlr := mid.re l hlE
          have hk := hlr.keeps nn
          refine ⟨_, rfl, t, l, rfl, el, hk.2.2, by omega, fun p us G3 s3' np ep ul nx nc => ?_⟩
          refine ⟨p, rfl, ⟨_, SqL.of ep⟩, ?_⟩
          have hpD : D ≠ p := ne_of_none eD' np
          have hpM : Mo ≠ p := ne_of_none eM' np
          refine for_list (K := K) (a := p) (xs := us.map V.ref) (fun b σ G' => ∃ (E' : List (List Int × Int)) (ms : List Addr) (M : List (List Int)) (y5 : Option V), σ = [some (.ref a), some (.ref D), some (.ref La), some (.ref Mo), some (.ref t), y5] ∧ Same H G' ∧ G' D = some (.dT (E'.map dE)) ∧ G' La = some (.lst (ts.map V.ref)) ∧ TsR G' ts L ∧ G' Mo = some (.lst (ms.map V.ref)) ∧ TsR G' ms M ∧ Mid ns (E.map Prod.fst) E' M ∧ (∀ x, x < m → ∀ l, L[x]? = some l → ∀ i j, MayG l i j → deed l i j ∈ E'.map Prod.fst) ∧ G' p = some (.lst (us.map V.ref)) ∧ (∀ c xs, G3 c = some (.tup xs) → G' c = some (.tup xs)) ∧ ∀ x, x < b → ∀ u, us[x]? = some u → ∀ o : List Int, G3 u = some (.tup (o.map V.int)) → o ∈ E'.map Prod.fst) ?_ ?_ ?_ ?_
          · exact ⟨E', ms, M, _, rfl, sG'.trans s3', s3' _ _ eD', s3' _ _ eL', hT'.mono fun c xs hc => s3' _ _ hc, s3' _ _ eM', hTM.mono fun c xs hc => s3' _ _ hc, mid, done, ep, fun c xs hc => hc, fun x hx => absurd hx (Nat.not_lt_zero _)⟩
          · rintro b σ G4 _ ⟨E', ms, M, y5, rfl, _, _, _, _, _, _, _, _, ep4, _⟩
            exact SqL.of ep4
          · rintro b x σ G4 hx ⟨E4, ms4, M4, y5, rfl, sG4, eD4, eL4, hT4, eM4, hTM4, mid4, done4, ep4, st4, did4⟩
            rw [List.getElem?_map] at hx
            obtain ⟨u, hu', rfl⟩ := Option.map_eq_some_iff.mp hx
            obtain ⟨i1, j1, m1, e1⟩ := nx u (List.mem_of_getElem? hu')
            have e4 := st4 _ _ e1
            have hro : Re ns (deed l i1 j1) := .step hlr m1
            generalize hoo : deed l i1 j1 = oo at e1 e4 hro
            have same1 : ∀ {o : List Int}, G3 u = some (.tup (o.map V.int)) → o = oo := fun {o} e => by
              rw [e1] at e
              injection e with e
              injection e with e
              exact (List.map_inj_right (fun x y h => by injection h) |>.mp e).symm
            refine ⟨_, rfl, _, rfl, D, _, rfl, DGet.t eD4 (k := kR oo) (by rw [kR_map]; exact e4), _, rfl, ?_⟩
            by_cases hin : oo ∈ E4.map Prod.fst
            · obtain ⟨c, hc'⟩ := valE_some hin
              rw [hc']
              refine iteF ⟨E4, ms4, M4, _, rfl, sG4, eD4, eL4, hT4, eM4, hTM4, mid4, done4, ep4, st4, fun x hx u' hu2 o ho => ?_⟩
              by_cases hxb : x = b
              · subst hxb
                rw [hu'] at hu2
                cases hu2
                rw [same1 ho]; exact hin
              · exact did4 x (by omega) u' hu2 o ho
            · rw [valE_none hin]
              refine iteT ?_
              have hl4 : E4.length ≤ 10000000 := by
                have := few mid4.nd mid4.re
                rw [List.length_map] at this
                exact this
              obtain ⟨c, hc'⟩ := valE_some (mid4.sub l (hL l (List.mem_of_getElem? hlm)))
              have el4 : G4 t = some (.tup (l.map V.int)) := hT4.2 m t l ht hlm
              refine ⟨_, rfl, _, rfl, D, .int c, rfl, by rw [← hc']; exact DGet.t eD4 (by rw [kR_map]; exact el4), _, _, rfl, rfl, _, rfl, _, rfl, D, _, rfl, DPut.t eD4 (k := kR oo) (by rw [kR_map]; exact e4) (by rw [List.length_map, sizeLine_eq]; omega), ?_⟩
              rw [putK_new _ (valE_none hin)]
              have eput : E4.map dE ++ [(kR oo, V.int (c + 1))] = (E4 ++ [(oo, c + 1)]).map dE := by rw [List.map_append]; rfl
              have ml4 : ms4.length ≤ 10000000 := by
                have := mid4.grow
                rw [hTM4.1]; omega
              refine ⟨_, rfl, .inl ⟨rfl, _, SqL.of (by rw [upd_ne hMD.symm]; exact eM4)⟩, _, rfl, Mo, _, _, rfl, rfl, by rw [upd_ne hMD.symm]; exact eM4, by rw [List.length_map, sizeLine_eq]; omega, ?_⟩
              have keepT : ∀ {c : Addr} {xs : List V} {X Y : HO}, G4 c = some (.tup xs) → upd (upd G4 D X) Mo Y c = some (.tup xs) := fun {c xs X Y} hc => by
                rw [upd_ne (fun z => by rw [z, eM4] at hc; cases hc), upd_ne (fun z => by rw [z, eD4] at hc; cases hc)]
                exact hc
              have sub1 : ∀ {o : List Int}, o ∈ E4.map Prod.fst → o ∈ (E4 ++ [(oo, c + 1)]).map Prod.fst := fun ho => by rw [List.map_append]; exact List.mem_append_left _ ho
              refine ⟨E4 ++ [(oo, c + 1)], ms4 ++ [u], M4 ++ [oo], _, rfl, fun c' o hc => ?_, ?_, ?_, hT4.mono fun c xs hc => keepT hc, ?_, (hTM4.snoc e4).mono fun c xs hc => keepT hc, mid4.put hin hro, fun x hx l' hl' i j hm => sub1 (done4 x hx l' hl' i j hm), ?_, fun c xs hc => keepT (st4 _ _ hc), fun x hx u' hu2 o ho => ?_⟩
              · rw [upd_ne (ne_of_none hc nMH), upd_ne (ne_of_none hc nD)]
                exact sG4 c' o hc
              · rw [upd_ne hMD, upd_same, eput]
              · rw [upd_ne hML, upd_ne hLD]
                exact eL4
              · rw [upd_same, List.map_append]; rfl
              · rw [upd_ne hpM.symm, upd_ne hpD.symm]
                exact ep4
              · by_cases hxb : x = b
                · subst hxb
                  rw [hu'] at hu2
                  cases hu2
                  rw [same1 ho, List.map_append]
                  exact List.mem_append_right _ List.mem_cons_self
                · exact sub1 (did4 x (by omega) u' hu2 o ho)
          · rintro σ G4 ⟨E4, ms4, M4, y5, rfl, sG4, eD4, eL4, hT4, eM4, hTM4, mid4, done4, ep4, st4, did4⟩
            refine ⟨E4, ms4, M4, _, _, rfl, sG4, eD4, eL4, hT4, eM4, hTM4, mid4, fun x hx l' hl' i j hm => ?_⟩
            by_cases hxm : x = m
            · subst hxm
              rw [hlm] at hl'
              cases hl'
              obtain ⟨u, hu1, eu⟩ := nc i j hm (by have := hm.hi; omega)
              obtain ⟨b, hb, eb⟩ := List.getElem_of_mem hu1
              exact did4 b (by rw [List.length_map]; exact hb) u (by rw [List.getElem?_eq_getElem hb, eb]) _ eu
            · exact done4 x (by omega) l' hl' i j hm
        · rintro σ G' ⟨E', ms, M, y4, y5, rfl, sG', eD', eL', hT', eM', hTM, mid, done⟩
          rw [List.length_map] at done
          refine ⟨_, rfl, ⟨E', Mo, ms, M, _, _, _, rfl, sG', eD', eM', hTM, mid.nd, mid.re, mid.sub _ h0, mid.mem, fun o ho hn i j hm => ?_⟩, ?_⟩
          · rcases mid.new o ho with z | z
            · by_cases hoL : o ∈ L
              · obtain ⟨x, hx, ex⟩ := List.getElem_of_mem hoL
                exact done x (by rw [hT.1]; exact hx) o (by rw [List.getElem?_eq_getElem hx, ex]) i j hm
              · exact mid.sub _ (hc o z hoL i j hm)
            · exact absurd z hn
          · have hE' : E'.length ≤ 10000000 := by
              have := few mid.nd mid.re
              rw [List.length_map] at this
              exact this
            have hgr := mid.grow
            rw [List.length_map] at hgr
            have m1 : ∀ z3 z4 z5, muB D [some (.ref a), some (.ref D), some (.ref La), z3, z4, z5] G = 2 * (10000000 - E.length) + 1 := fun z3 z4 z5 => by
              unfold muB
              rw [eD]
              show 2 * (10000000 - (E.map dE).length) + fullL (G La) = _
              rw [eL, List.length_map]
              match ts, tl with
              | t :: ts, _ => rfl
            have m2 : ∀ z3 z4 z5, muB D [some (.ref a), some (.ref D), some (.ref Mo), z3, z4, z5] G' ≤ 2 * (10000000 - E'.length) + (if ms.length = 0 then 0 else 1) := fun z3 z4 z5 => by
              unfold muB
              rw [eD']
              show 2 * (10000000 - (E'.map dE).length) + fullL (G' Mo) ≤ _
              rw [eM', List.length_map]
              match ms with
              | [] => exact Nat.le_refl _
              | t :: ts => exact Nat.le_refl _
            have hml := hTM.1
            refine Nat.lt_of_le_of_lt (m2 _ _ _) (Nat.lt_of_lt_of_eq ?_ (m1 _ _ _).symm)
            split <;> omega
    · rintro σ H' Q1 Q2 hq ⟨x, e1, hz, h⟩
      refine ⟨x, e1, hz, fun p np => ?_⟩
      obtain ⟨d, e, a1, a2, a3, a4, z, a5, a6⟩ := h p np
      exact ⟨d, e, a1, a2, a3, a4, z, a5, hq _ _ a6⟩
end
end K56

/-! MMa: of so many holders and such a sum all that no clause bars is come to: gone through by the kernel. Pure mathematics. -/
namespace Fc
noncomputable def ite' {α : Type} (b : Bool) (x y : α) : α := Bool.rec (motive := fun _ => α) y x b
noncomputable def en (B : Nat) (l : List Nat) : Nat := List.rec (motive := fun _ => Nat) 0 (fun x _ ih => Nat.add x (Nat.mul B ih)) l
noncomputable def hd (l : List Nat) : Nat := List.rec (motive := fun _ => Nat) 0 (fun x _ _ => x) l
noncomputable def get (n : Nat) : List Nat → Nat := Nat.rec (motive := fun _ => List Nat → Nat) hd (fun _ ih l => List.rec (motive := fun _ => Nat) 0 (fun _ t _ => ih t) l) n
noncomputable def ins (y n : Nat) : List Nat → List Nat := Nat.rec (motive := fun _ => List Nat → List Nat) (fun l => List.rec (motive := fun _ => List Nat) [] (fun x t _ => Nat.lor x y :: t) l) (fun _ ih l => List.rec (motive := fun _ => List Nat) [] (fun x t _ => x :: ih t) l) n
noncomputable def has (v : List Nat) (a b : Nat) : Bool := Nat.beq (Nat.mod (Nat.shiftRight (get a v) b) 2) 1
noncomputable def put (v : List Nat) (a b : Nat) : List Nat := ins (Nat.pow 2 b) a v
noncomputable def try3 (ih : List Nat → List Nat → List Nat) (d a b : Nat) (st v : List Nat) : List Nat :=
  Bool.rec (motive := fun _ => List Nat) (ih (d :: st) (put v a b)) (ih st v) (has v a b)
noncomputable def try2 (B M : Nat) (ih : List Nat → List Nat → List Nat) (d : Nat) (st v : List Nat) : List Nat := try3 ih d (Nat.mod d B) (Nat.mod (Nat.div d B) M) st v
noncomputable def try1 (B M : Nat) (ih : List Nat → List Nat → List Nat) (c x pi pj : Nat) (st v : List Nat) : List Nat :=
  Bool.rec (motive := fun _ => List Nat) (Bool.rec (motive := fun _ => List Nat) (ih st v) (try2 B M ih (Nat.sub (Nat.add c (Nat.mul x pj)) (Nat.mul x pi)) st v) (Nat.ble x (Nat.mod (Nat.div c pi) B))) (ih st v) (Nat.beq x 0)
noncomputable def scan (B M : Nat) (K : List Nat → List Nat → List Nat) (c : Nat) (P : List (Nat × Nat)) : List Nat → List Nat → List Nat :=
  List.rec (motive := fun _ => List Nat → List Nat → List Nat) K (fun p _ ih st v => try1 B M ih c (Nat.mod (Nat.div c p.2) B) p.1 p.2 st v) P
noncomputable def go (B M : Nat) (P : List (Nat × Nat)) (f : Nat) : List Nat → List Nat → List Nat :=
  Nat.rec (motive := fun _ => List Nat → List Nat → List Nat) (fun _ v => v)
    (fun _ ih st v => List.rec (motive := fun _ => List Nat) v (fun d st _ => scan B M ih d P st v) st) f
def prs (B k : Nat) : List (Nat × Nat) := (List.range k).flatMap fun i => (List.range k).filterMap fun j => bif Nat.beq i j then none else some (Nat.pow B i, Nat.pow B j)
noncomputable def seen (B M : Nat) (P : List (Nat × Nat)) (f : Nat) (x : List Nat) : List Nat := go B M P f [en B x] (put (List.replicate B 0) (Nat.mod (en B x) B) (Nat.mod (Nat.div (en B x) B) M))
noncomputable def gN (l : List Nat) : Nat := List.rec (motive := fun _ => Nat) 0 (fun x _ ih => Nat.gcd x ih) l
noncomputable def tN (y : List Nat) : Nat := Nat.gcd (gN y) 64
noncomputable def oN (t : Nat) (l : List Nat) : Nat := List.rec (motive := fun _ => Nat) 0 (fun d _ ih => Bool.rec (motive := fun _ => Nat) ih (Nat.add ih 1) (Bool.and (Nat.ble 1 d) (Nat.ble (Nat.gcd d 64) t))) l
noncomputable def hN (l : List Nat) : Nat := List.rec (motive := fun _ => Nat) 0 (fun d _ ih => Bool.rec (motive := fun _ => Nat) ih (Nat.add ih 1) (Nat.ble 1 d)) l
noncomputable def bad (x y : List Nat) : Bool := Bool.or (Bool.not (Nat.beq (Nat.div (gN x) (tN x)) (Nat.div (gN y) (tN y)))) (Bool.or (Nat.ble (Nat.add (tN y) 1) (tN x)) (Bool.and (Nat.beq (tN y) (tN x)) (Bool.or (Nat.ble (Nat.add (oN (tN x) x) 1) (oN (tN y) y)) (Nat.beq (oN (tN y) y) (hN y)))))
noncomputable def upto (f : Nat → Bool) (n : Nat) : Bool := Nat.rec (motive := fun _ => Bool) (f 0) (fun i ih => Bool.and (f (Nat.succ i)) ih) n
noncomputable def allc (f : List Nat → Bool) (k : Nat) : Nat → List Nat → Bool :=
  Nat.rec (motive := fun _ => Nat → List Nat → Bool) (fun n acc => f (n :: acc)) (fun _ ih n acc => upto (fun a => ih (Nat.sub n a) (a :: acc)) n) k
def part : Nat → Nat → Nat → List (List Nat)
  | 0, n, _ => bif Nat.beq n 0 then [[]] else []
  | k + 1, n, lo => (List.range (n + 1)).flatMap fun a => bif Nat.blt a lo then [] else (part k (n - a) a).map (a :: ·)
noncomputable def okA (B M : Nat) (x y : List Nat) (c : Nat) (v : List Nat) : Bool := Bool.or (has v (Nat.mod c B) (Nat.mod (Nat.div c B) M)) (bad x y)
noncomputable def ok1 (B M k n : Nat) (x : List Nat) (v : List Nat) : Bool := allc (fun y => okA B M x y (en B y) v) (k - 1) n []
noncomputable def chk (B k n f : Nat) : Bool := (part k n 1).all fun x => ok1 B (Nat.pow B (k - 2)) k n x (seen B (Nat.pow B (k - 2)) (prs B k) f x)
open PySem PySem.Spec PyProof.Rows L2 MG
theorem en_cons (B x : Nat) (l : List Nat) : en B (x :: l) = x + B * en B l := rfl
theorem en_nil (B : Nat) : en B [] = 0 := rfl
theorem en_dig {B : Nat} (hB : 0 < B) : ∀ (y : List Nat) (i : Nat), (∀ n ∈ y, n < B) → en B y / B ^ i % B = y.getD i 0
  | [], i, _ => by rw [en_nil, Nat.zero_div, Nat.zero_mod]; rfl
  | x :: l, 0, h => by
    rw [en_cons, Nat.pow_zero, Nat.div_one, Nat.add_mul_mod_self_left, Nat.mod_eq_of_lt (h x List.mem_cons_self)]
    rfl
  | x :: l, i + 1, h => by
    rw [en_cons, Nat.pow_succ', ← Nat.div_div_eq_div_mul, Nat.add_mul_div_left _ _ hB, Nat.div_eq_of_lt (h x List.mem_cons_self), Nat.zero_add]
    exact en_dig hB l i fun n hn => h n (List.mem_cons_of_mem _ hn)
theorem en_set {B : Nat} : ∀ (y : List Nat) (i v : Nat), i < y.length → en B (y.set i v) + B ^ i * y.getD i 0 = en B y + B ^ i * v
  | [], i, v, h => by simp at h
  | x :: l, 0, v, h => by
    show (v + B * en B l) + B ^ 0 * x = (x + B * en B l) + B ^ 0 * v
    rw [Nat.pow_zero]
    omega
  | x :: l, i + 1, v, h => by
    have ih := en_set (B := B) l i v (by simpa using h)
    have e := congrArg (B * ·) ih
    simp only [Nat.mul_add] at e
    show (x + B * en B (l.set i v)) + B ^ (i + 1) * l.getD i 0 = (x + B * en B l) + B ^ (i + 1) * v
    rw [Nat.pow_succ', Nat.mul_assoc, Nat.mul_assoc]
    omega
def dN (y : List Nat) (i j : Nat) : List Nat := (y.set i (y.getD i 0 - y.getD j 0)).set j (2 * y.getD j 0)
theorem getD_cast (y : List Nat) (i : Nat) : (y.map Int.ofNat).getD i 0 = Int.ofNat (y.getD i 0) := by
  rw [List.getD_eq_getElem?_getD, List.getD_eq_getElem?_getD, List.getElem?_map]
  cases y[i]? <;> rfl
theorem dN_cast {y : List Nat} {i j : Nat} (h : y.getD j 0 ≤ y.getD i 0) : (dN y i j).map Int.ofNat = deed (y.map Int.ofNat) i j := by
  unfold dN deed
  rw [List.map_set, List.map_set, getD_cast, getD_cast]
  congr 2
  show ((y.getD i 0 - y.getD j 0 : Nat) : Int) = ((y.getD i 0 : Nat) : Int) - ((y.getD j 0 : Nat) : Int)
  omega
theorem en_dN {B : Nat} {y : List Nat} {i j : Nat} (hi : i < y.length) (hj : j < y.length) (ne : i ≠ j) (h : y.getD j 0 ≤ y.getD i 0) : en B (dN y i j) = en B y + y.getD j 0 * B ^ j - y.getD j 0 * B ^ i := by
  have h1 := en_set (B := B) y i (y.getD i 0 - y.getD j 0) hi
  have h2 := en_set (B := B) (y.set i (y.getD i 0 - y.getD j 0)) j (2 * y.getD j 0) (by rw [List.length_set]; exact hj)
  have h3 : (y.set i (y.getD i 0 - y.getD j 0)).getD j 0 = y.getD j 0 := by
    rw [List.getD_eq_getElem?_getD, List.getElem?_set_ne ne, ← List.getD_eq_getElem?_getD]
  rw [h3] at h2
  unfold dN
  obtain ⟨d, hd⟩ : ∃ d, y.getD i 0 = y.getD j 0 + d := ⟨y.getD i 0 - y.getD j 0, by omega⟩
  rw [hd] at h1 h2 ⊢
  rw [Nat.add_sub_cancel_left] at h1 h2 ⊢
  rw [Nat.mul_add] at h1
  rw [Nat.mul_left_comm] at h2
  rw [Nat.mul_comm (y.getD j 0) (B ^ j), Nat.mul_comm (y.getD j 0) (B ^ i)]
  generalize B ^ i * y.getD j 0 = p at *
  generalize B ^ j * y.getD j 0 = q at *
  omega
theorem dN_len (y : List Nat) (i j : Nat) : (dN y i j).length = y.length := by unfold dN; rw [List.length_set, List.length_set]
theorem get_nil (n : Nat) : get n [] = 0 := by cases n <;> rfl
theorem get_ins (y : Nat) : ∀ (n : Nat) (l : List Nat) (m : Nat), get m (ins y n l) = get m l ∨ (m = n ∧ get m (ins y n l) = get m l ||| y)
  | 0, [], m => .inl rfl
  | n + 1, [], m => .inl rfl
  | 0, x :: l, 0 => .inr ⟨rfl, rfl⟩
  | 0, x :: l, m + 1 => .inl rfl
  | n + 1, x :: l, 0 => .inl rfl
  | n + 1, x :: l, m + 1 => by
    rcases get_ins y n l m with h | ⟨h, k⟩
    · exact .inl h
    · exact .inr ⟨by rw [h], k⟩
theorem has_iff {v : List Nat} {a b : Nat} : has v a b = true ↔ (get a v).testBit b = true := by
  unfold has
  rw [Nat.testBit_eq_decide_div_mod_eq, decide_eq_true_eq]
  show Nat.beq ((get a v >>> b) % 2) 1 = true ↔ _
  rw [Nat.beq_eq, Nat.shiftRight_eq_div_pow]
theorem has_put {v : List Nat} {a b a' b' : Nat} (h : has (put v a b) a' b' = true) : has v a' b' = true ∨ (a' = a ∧ b' = b) := by
  rw [has_iff] at h
  unfold put at h
  rcases get_ins (Nat.pow 2 b) a v a' with k | ⟨rfl, k⟩
  · rw [k] at h
    exact .inl (has_iff.mpr h)
  · rw [k, Nat.testBit_or, show Nat.pow 2 b = 2 ^ b from rfl, Nat.testBit_two_pow, Bool.or_eq_true] at h
    rcases h with h | h
    · exact .inl (has_iff.mpr h)
    · exact .inr ⟨rfl, (of_decide_eq_true h).symm⟩
def Good (R : List Nat → Prop) (B M : Nat) (v : List Nat) : Prop := ∀ a b, has v a b = true → ∃ y, R y ∧ en B y % B = a ∧ en B y / B % M = b
structure Ste (R : List Nat → Prop) (B M : Nat) (st v : List Nat) : Prop where
  s : ∀ c ∈ st, ∃ y, R y ∧ c = en B y
  v : Good R B M v
/-- what is closed by deeds -/
structure Cld (R : List Nat → Prop) (B k : Nat) : Prop where
  hB : 0 < B
  len : ∀ y, R y → y.length = k
  lt : ∀ y, R y → ∀ n ∈ y, n < B
  deed : ∀ y i j, R y → i < k → j < k → i ≠ j → y.getD j 0 ≠ 0 → y.getD j 0 ≤ y.getD i 0 → R (dN y i j)
theorem try_good {G : List Nat → Prop} {B M c x pi pj : Nat} {ih : List Nat → List Nat → List Nat} {st v : List Nat} (h0 : G (ih st v))
    (h1 : x ≠ 0 → x ≤ c / pi % B → G (ih ((c + x * pj - x * pi) :: st) (put v ((c + x * pj - x * pi) % B) ((c + x * pj - x * pi) / B % M)))) : G (try1 B M ih c x pi pj st v) := by
  unfold try1
  cases e1 : Nat.beq x 0 with
  | true => exact h0
  | false =>
    cases e2 : Nat.ble x (Nat.mod (Nat.div c pi) B) with
    | false => exact h0
    | true =>
      show G (try2 B M ih (c + x * pj - x * pi) st v)
      unfold try2 try3
      cases e3 : has v (Nat.mod (c + x * pj - x * pi) B) (Nat.mod (Nat.div (c + x * pj - x * pi) B) M) with
      | true => exact h0
      | false => exact h1 (by intro z; rw [z] at e1; cases e1) (Nat.le_of_ble_eq_true e2)
theorem scan_good {R : List Nat → Prop} {B M k : Nat} (cl : Cld R B k) {K : List Nat → List Nat → List Nat} (hK : ∀ st v, Ste R B M st v → Good R B M (K st v)) {y : List Nat} (hy : R y) :
    ∀ (P : List (Nat × Nat)), (∀ p ∈ P, ∃ i j, i < k ∧ j < k ∧ i ≠ j ∧ p = (B ^ i, B ^ j)) → ∀ st v, Ste R B M st v → Good R B M (scan B M K (en B y) P st v)
  | [], _, st, v, h => hK st v h
  | p :: P, hP, st, v, h => by
    have ih := scan_good cl hK hy P (fun q hq => hP q (List.mem_cons_of_mem _ hq))
    obtain ⟨i, j, hi, hj, ne, rfl⟩ := hP p List.mem_cons_self
    show Good R B M (try1 B M (scan B M K (en B y) P) (en B y) (en B y / B ^ j % B) (B ^ i) (B ^ j) st v)
    rw [en_dig cl.hB y j (cl.lt y hy)]
    refine try_good (ih st v h) fun h1 h2 => ih _ _ ?_
    rw [en_dig cl.hB y i (cl.lt y hy)] at h2
    have hl := cl.len y hy
    rw [← en_dN (by omega) (by omega) ne h2]
    have hd := cl.deed y i j hy hi hj ne h1 h2
    refine ⟨fun c hc => ?_, fun a b hab => ?_⟩
    · rcases List.mem_cons.mp hc with rfl | hc
      · exact ⟨_, hd, rfl⟩
      · exact h.s c hc
    · rcases has_put hab with hab | ⟨rfl, rfl⟩
      · exact h.v a b hab
      · exact ⟨_, hd, rfl, rfl⟩
theorem go_good {R : List Nat → Prop} {B M k : Nat} (cl : Cld R B k) {P : List (Nat × Nat)} (hP : ∀ p ∈ P, ∃ i j, i < k ∧ j < k ∧ i ≠ j ∧ p = (B ^ i, B ^ j)) : ∀ (f : Nat) st v, Ste R B M st v → Good R B M (go B M P f st v)
  | 0, st, v, h => h.v
  | f + 1, [], v, h => h.v
  | f + 1, c :: st, v, h => by
    obtain ⟨y, hy, rfl⟩ := h.s c List.mem_cons_self
    exact scan_good cl (go_good cl hP f) hy P hP st v ⟨fun c hc => h.s c (List.mem_cons_of_mem _ hc), h.v⟩
theorem prs_mem {B k : Nat} {p : Nat × Nat} (h : p ∈ prs B k) : ∃ i j, i < k ∧ j < k ∧ i ≠ j ∧ p = (B ^ i, B ^ j) := by
  unfold prs at h
  obtain ⟨i, hi, h⟩ := List.mem_flatMap.mp h
  obtain ⟨j, hj, h⟩ := List.mem_filterMap.mp h
  refine ⟨i, j, List.mem_range.mp hi, List.mem_range.mp hj, fun z => ?_, ?_⟩
  · rw [z, Nat.beq_refl] at h
    cases h
  · cases e : Nat.beq i j with
    | true => rw [e] at h; cases h
    | false => rw [e] at h; exact (Option.some.inj h).symm
theorem get_zeros : ∀ (n a : Nat), get a (List.replicate n 0) = 0
  | 0, a => get_nil a
  | n + 1, 0 => rfl
  | n + 1, a + 1 => get_zeros n a
theorem seen_good {R : List Nat → Prop} {B M k : Nat} (cl : Cld R B k) (f : Nat) {x : List Nat} (hx : R x) : Good R B M (seen B M (prs B k) f x) := by
  refine go_good cl (fun p => prs_mem) f _ _ ⟨fun c hc => ⟨x, hx, List.mem_singleton.mp hc⟩, fun a b h => ?_⟩
  rcases has_put h with h | ⟨rfl, rfl⟩
  · rw [has_iff, get_zeros, Nat.zero_testBit] at h
    cases h
  · exact ⟨x, hx, rfl, rfl⟩
theorem upto_all {f : Nat → Bool} : ∀ {n : Nat}, upto f n = true → ∀ a ≤ n, f a = true
  | 0, h, a, ha => by rw [Nat.le_zero.mp ha]; exact h
  | n + 1, h, a, ha => by
    have h' : (f (n + 1) && upto f n) = true := h
    rw [Bool.and_eq_true] at h'
    by_cases z : a = n + 1
    · rw [z]; exact h'.1
    · exact upto_all h'.2 a (by omega)
theorem allc_all {f : List Nat → Bool} : ∀ {k n : Nat} {acc : List Nat}, allc f k n acc = true → ∀ l : List Nat, l.length = k + 1 → l.sum = n → f (l.reverse ++ acc) = true
  | 0, n, acc, h, l, hl, hs => by
    match l, hl with
    | [a], _ =>
      have : a = n := by simpa using hs
      rw [this]
      exact h
  | k + 1, n, acc, h, l, hl, hs => by
    match l, hl with
    | a :: l, hl =>
      rw [List.sum_cons] at hs
      have h1 := upto_all (show upto (fun a => allc f k (Nat.sub n a) (a :: acc)) n = true from h) a (by omega)
      have h2 := allc_all (f := f) h1 l (by simpa using hl) (by show l.sum = n - a; omega)
      rw [List.reverse_cons, List.append_assoc]
      exact h2
theorem part_mem : ∀ {k n lo : Nat} {x : List Nat}, x.length = k → x.sum = n → (∀ a ∈ x, lo ≤ a) → x.Pairwise (· ≤ ·) → x ∈ part k n lo
  | 0, n, lo, x, hl, hs, _, _ => by
    match x, hl with
    | [], _ =>
      have : n = 0 := by simpa using hs.symm
      rw [this]
      exact List.mem_singleton.mpr rfl
  | k + 1, n, lo, x, hl, hs, ha, hp => by
    match x, hl with
    | a :: l, hl =>
      rw [List.sum_cons] at hs
      obtain ⟨h1, h2⟩ := List.pairwise_cons.mp hp
      refine List.mem_flatMap.mpr ⟨a, List.mem_range.mpr (by omega), ?_⟩
      rw [show Nat.blt a lo = false from by
        cases e : Nat.blt a lo with
        | false => rfl
        | true =>
          have := ha a List.mem_cons_self
          have : a < lo := Nat.le_of_ble_eq_true e
          omega]
      exact List.mem_map_of_mem (part_mem (by simpa using hl) (by omega) h1 h2)
theorem mod_dig {B a m t : Nat} (hB : 0 < B) (h : t < m) : (a % B ^ m) / B ^ t % B = a / B ^ t % B := by
  have e : a = a % B ^ m + B ^ t * (B * (B ^ (m - t - 1) * (a / B ^ m))) := by
    have h1 := Nat.mod_add_div a (B ^ m)
    have h2 : B ^ m = B ^ t * (B * B ^ (m - t - 1)) := by
      rw [← Nat.pow_succ', ← Nat.pow_add]
      congr 1
      omega
    rw [← Nat.mul_assoc B, ← Nat.mul_assoc, ← h2]
    exact h1.symm
  conv => rhs; rw [e]
  rw [Nat.add_mul_div_left _ _ (Nat.pow_pos hB), Nat.add_mul_mod_self_left]
theorem key_inj {B k : Nat} (hB : 0 < B) (hk : 2 ≤ k) {y z : List Nat} (ly : y.length = k) (lz : z.length = k) (by' : ∀ n ∈ y, n < B) (bz : ∀ n ∈ z, n < B) (hs : y.sum = z.sum)
    (h1 : en B y % B = en B z % B) (h2 : en B y / B % B ^ (k - 2) = en B z / B % B ^ (k - 2)) : y = z := by
  have dig : ∀ i, i < k - 1 → y.getD i 0 = z.getD i 0 := by
    intro i hi
    cases i with
    | zero =>
      have a := en_dig hB y 0 by'
      have b := en_dig hB z 0 bz
      rw [Nat.pow_zero, Nat.div_one] at a b
      rw [← a, ← b, h1]
    | succ i =>
      have a := en_dig hB y (i + 1) by'
      have b := en_dig hB z (i + 1) bz
      rw [Nat.pow_succ', ← Nat.div_div_eq_div_mul] at a b
      rw [← mod_dig hB (show i < k - 2 by omega)] at a b
      rw [← a, ← b, h2]
  have tk : y.take (k - 1) = z.take (k - 1) := by
    refine List.ext_getElem (by rw [List.length_take, List.length_take, ly, lz]) fun i a b => ?_
    rw [List.length_take] at a b
    have := dig i (by omega)
    rw [List.getElem_take, List.getElem_take]
    rw [List.getD_eq_getElem?_getD, List.getD_eq_getElem?_getD, List.getElem?_eq_getElem (by omega), List.getElem?_eq_getElem (by omega)] at this
    exact this
  have sp : ∀ w : List Nat, w.length = k → ∃ c, w = w.take (k - 1) ++ [c] := fun w lw => by
    have h3 := (List.take_append_drop (k - 1) w).symm
    have h4 : (w.drop (k - 1)).length = 1 := by rw [List.length_drop]; omega
    match e : w.drop (k - 1), h4 with
    | [c], _ => exact ⟨c, by rw [e] at h3; exact h3⟩
  obtain ⟨c, ey⟩ := sp y ly
  obtain ⟨d, ez⟩ := sp z lz
  rw [ey, ez, tk, List.sum_append, List.sum_append] at hs
  have : c = d := by simpa using hs
  rw [ey, ez, tk, this]
end Fc

namespace Fc
open PySem PySem.Spec PyProof.Rows L2 MG
abbrev cI (y : List Nat) : List Int := y.map Int.ofNat
theorem gcd_two : ∀ (m g : Nat), 0 < g → g < 2 ^ (m + 1) → Nat.gcd g (2 ^ m) = 2 ^ v2 g
  | 0, g, h0, h => by
    have : g = 1 := by have : g < 2 := h; omega
    rw [this, v2_odd (by decide)]
    rfl
  | m + 1, g, h0, h => by
    by_cases e : g % 2 = 1
    · rw [v2_odd e]
      have : Nat.Coprime g 2 := by
        unfold Nat.Coprime
        rw [Nat.gcd_comm, Nat.gcd_rec, e]
        rfl
      exact Nat.Coprime.pow_right _ this
    · have hg : g = 2 * (g / 2) := by omega
      rw [hg, v2_mul2 (by omega), Nat.pow_succ', Nat.pow_succ', Nat.gcd_mul_left, gcd_two m (g / 2) (by omega) (by rw [Nat.pow_succ'] at h; omega)]
theorem gN_gl : ∀ y : List Nat, gN y = gl (cI y)
  | [] => rfl
  | x :: l => by
    show Nat.gcd x (gN l) = Nat.gcd (Int.toNat (Int.ofNat x)) (gl (cI l))
    rw [gN_gl l]
    rfl
theorem gN_dvd : ∀ {y : List Nat} {e : Nat}, e ∈ y → gN y ∣ e
  | x :: l, e, h => by
    show Nat.gcd x (gN l) ∣ e
    rcases List.mem_cons.mp h with rfl | h
    · exact Nat.gcd_dvd_left _ _
    · exact Nat.dvd_trans (Nat.gcd_dvd_right _ _) (gN_dvd h)
theorem has_pos : ∀ {y : List Nat}, 0 < y.sum → ∃ e ∈ y, 0 < e
  | [], h => by simp at h
  | x :: l, h => by
    by_cases hx : 0 < x
    · exact ⟨x, List.mem_cons_self, hx⟩
    · rw [List.sum_cons] at h
      obtain ⟨e, he, h0⟩ := has_pos (y := l) (by omega)
      exact ⟨e, List.mem_cons_of_mem _ he, h0⟩
theorem le_sumN : ∀ {y : List Nat} {e : Nat}, e ∈ y → e ≤ y.sum
  | x :: l, e, h => by
    rw [List.sum_cons]
    rcases List.mem_cons.mp h with rfl | h
    · omega
    · have := le_sumN h; omega
theorem gN_bd {y : List Nat} (h : 0 < y.sum) : 0 < gN y ∧ gN y ≤ y.sum := by
  obtain ⟨e, he, h0⟩ := has_pos h
  have d := gN_dvd he
  have := le_sumN he
  have h1 := Nat.le_of_dvd h0 d
  refine ⟨?_, by omega⟩
  refine Nat.pos_of_ne_zero fun z => ?_
  rw [z, Nat.zero_dvd] at d
  omega
theorem tN_v2 {y : List Nat} (h : 0 < y.sum) (h2 : y.sum < 128) : tN y = 2 ^ v2 (gl (cI y)) := by
  unfold tN
  rw [← gN_gl]
  have := gN_bd h
  exact gcd_two 6 _ this.1 (show gN y < 128 by omega)
theorem oN_few {t : Nat} : ∀ {y : List Nat}, (∀ e ∈ y, e < 128) → oN (2 ^ t) y = (fewT t (cI y)).length
  | [], _ => rfl
  | d :: l, h => by
    have ih := oN_few (t := t) (y := l) fun e he => h e (List.mem_cons_of_mem _ he)
    have e1 : oN (2 ^ t) (d :: l) = Bool.rec (motive := fun _ => Nat) (oN (2 ^ t) l) (oN (2 ^ t) l + 1) (Bool.and (Nat.ble 1 d) (Nat.ble (Nat.gcd d 64) (2 ^ t))) := rfl
    have e2 : fewT t (cI (d :: l)) = if (decide ((Int.ofNat d) > 0) && decide (v2 (Int.ofNat d).toNat ≤ t)) then Int.ofNat d :: fewT t (cI l) else fewT t (cI l) := by
      unfold fewT cI
      rw [List.map_cons, List.filter_cons]
    have e3 : Bool.and (Nat.ble 1 d) (Nat.ble (Nat.gcd d 64) (2 ^ t)) = (decide ((Int.ofNat d) > 0) && decide (v2 (Int.ofNat d).toNat ≤ t)) := by
      rw [show Bool.and (Nat.ble 1 d) (Nat.ble (Nat.gcd d 64) (2 ^ t)) = (Nat.ble 1 d && Nat.ble (Nat.gcd d 64) (2 ^ t)) from rfl]
      by_cases hd : 0 < d
      · rw [show Nat.ble 1 d = true from Nat.ble_eq_true_of_le hd, decide_eq_true (show (Int.ofNat d) > 0 by show (d : Int) > 0; omega)]
        rw [show Nat.gcd d 64 = 2 ^ v2 d from gcd_two 6 d hd (h d List.mem_cons_self), Bool.true_and, Bool.true_and]
        show Nat.ble (2 ^ v2 d) (2 ^ t) = decide (v2 d ≤ t)
        by_cases k : v2 d ≤ t
        · rw [decide_eq_true k]
          exact Nat.ble_eq_true_of_le (Nat.pow_le_pow_right (by decide) k)
        · rw [decide_eq_false k]
          have : 2 ^ t < 2 ^ v2 d := Nat.pow_lt_pow_right (by decide) (by omega)
          cases e : Nat.ble (2 ^ v2 d) (2 ^ t) with
          | false => rfl
          | true => have := Nat.le_of_ble_eq_true e; omega
      · have : d = 0 := by omega
        subst this
        rfl
    rw [e1, e2, e3, ih]
    cases (decide ((Int.ofNat d) > 0) && decide (v2 (Int.ofNat d).toNat ≤ t)) <;> rfl
theorem hN_cnt : ∀ {y : List Nat}, hN y = cnt (cI y)
  | [] => rfl
  | d :: l => by
    have ih := hN_cnt (y := l)
    have e1 : hN (d :: l) = Bool.rec (motive := fun _ => Nat) (hN l) (hN l + 1) (Nat.ble 1 d) := rfl
    have e2 : cnt (cI (d :: l)) = ((cI (d :: l)).filter fun n => decide (0 < n)).length := rfl
    rw [e1, e2]
    unfold cI
    rw [List.map_cons, List.filter_cons, ih]
    by_cases hd : 0 < d
    · rw [show Nat.ble 1 d = true from Nat.ble_eq_true_of_le hd, decide_eq_true (show 0 < (Int.ofNat d) by show (0 : Int) < (d : Int); omega), if_pos rfl]
      rfl
    · have : d = 0 := by omega
      subst this
      rfl
theorem bad_not {x y : List Nat} (hx : 0 < x.sum) (hx2 : x.sum < 128) (hy : y.sum = x.sum) (h : bad x y = true) (c : Cl (cI x) (cI y)) : False := by
  have tx := tN_v2 hx hx2
  have ty := tN_v2 (y := y) (by omega) (by omega)
  have gx := gN_bd hx
  have lx : ∀ e ∈ x, e < 128 := fun e he => by have := le_sumN he; omega
  have ly : ∀ e ∈ y, e < 128 := fun e he => by have := le_sumN he; omega
  have ox : oN (tN x) x = od (cI x) := by rw [tx]; exact oN_few lx
  have oy : oN (tN y) y = od (cI y) := by rw [ty]; exact oN_few ly
  have pw : ∀ {a b : Nat}, (2 : Nat) ^ a < 2 ^ b → a < b := fun {a b} h => (Nat.pow_lt_pow_iff_right (by decide)).mp h
  have pe : ∀ {a b : Nat}, (2 : Nat) ^ a = 2 ^ b → a = b := fun {a b} h => by
    rcases Nat.lt_trichotomy a b with z | z | z
    · have := Nat.pow_lt_pow_right (show 1 < 2 by decide) z; omega
    · exact z
    · have := Nat.pow_lt_pow_right (show 1 < 2 by decide) z; omega
  have h' : (!(Nat.beq (gN x / tN x) (gN y / tN y)) || (Nat.ble (tN y + 1) (tN x) || (Nat.beq (tN y) (tN x) && (Nat.ble (oN (tN x) x + 1) (oN (tN y) y) || Nat.beq (oN (tN y) y) (hN y))))) = true := h
  rw [Bool.or_eq_true, Bool.or_eq_true, Bool.and_eq_true, Bool.or_eq_true] at h'
  rcases h' with h | h | ⟨h1, h | h⟩
  · have m := c.ms
    rw [ms_nat, ms_nat, ← gN_gl, ← gN_gl] at m
    rw [tx, ty, ← gN_gl, ← gN_gl] at h
    have m' : gN y / 2 ^ v2 (gN y) = gN x / 2 ^ v2 (gN x) := by omega
    rw [m', Nat.beq_refl] at h
    cases h
  · have := Nat.le_of_ble_eq_true h
    rw [tx, ty] at this
    have := pw (show 2 ^ v2 (gl (cI y)) < 2 ^ v2 (gl (cI x)) by omega)
    have := c.tw
    omega
  · have e := Nat.eq_of_beq_eq_true h1
    rw [tx, ty] at e
    have := c.od (pe e)
    have h2 := Nat.le_of_ble_eq_true h
    rw [ox, oy] at h2
    omega
  · have e := Nat.eq_of_beq_eq_true h1
    rw [tx, ty] at e
    have h2 := Nat.eq_of_beq_eq_true h
    rw [oy, hN_cnt, cnt_hold] at h2
    exact c.dbl (pe e) h2
/-- what the check tells -/
theorem chk_tells {B k n f : Nat} (hk : 2 ≤ k) (hn : 0 < n) (hB : n < B) (h128 : n < 128) (h : chk B k n f = true) {x y : List Nat} (lx : x.length = k) (sx : x.sum = n) (px : ∀ a ∈ x, 1 ≤ a) (so : x.Pairwise (· ≤ ·))
    (ly : y.length = k) (sy : y.sum = n) (c : Cl (cI x) (cI y)) : Re (cI x) (cI y) := by
  have h1 := List.all_eq_true.mp h x (part_mem lx sx px so)
  have h2 := allc_all (f := _) h1 y.reverse (by rw [List.length_reverse]; omega) (by rw [List.sum_reverse]; exact sy)
  rw [List.reverse_reverse, List.append_nil] at h2
  have h3 : (has (seen B (Nat.pow B (k - 2)) (prs B k) f x) (en B y % B) (en B y / B % B ^ (k - 2)) || bad x y) = true := h2
  rw [Bool.or_eq_true] at h3
  rcases h3 with h3 | h3
  · have cl : Cld (fun z => z.length = k ∧ z.sum = n ∧ Re (cI x) (cI z)) B k := by
      refine ⟨by omega, fun z hz => hz.1, fun z hz e he => by have := le_sumN he; rw [hz.2.1] at this; omega, ?_⟩
      rintro z i j ⟨hl, hs, hr⟩ hi hj ne hp hle
      have mg : MayG (cI z) i j := ⟨by rw [List.length_map]; omega, by rw [List.length_map]; omega, ne, by rw [getD_cast]; show (0 : Int) < ((z.getD j 0 : Nat) : Int); omega, by rw [getD_cast, getD_cast]; show ((z.getD j 0 : Nat) : Int) ≤ ((z.getD i 0 : Nat) : Int); omega⟩
      have re : Re (cI x) (cI (dN z i j)) := by rw [show cI (dN z i j) = deed (cI z) i j from dN_cast hle]; exact .step hr mg
      refine ⟨by rw [dN_len]; exact hl, ?_, re⟩
      have s1 := deed_sum mg
      rw [show deed (cI z) i j = cI (dN z i j) from (dN_cast hle).symm] at s1
      have sc : ∀ w : List Nat, (cI w).sum = ((w.sum : Nat) : Int) := fun w => by
        induction w with
        | nil => rfl
        | cons a w ih =>
          show (Int.ofNat a :: cI w).sum = _
          rw [List.sum_cons, List.sum_cons, ih]
          show (a : Int) + _ = _
          omega
      rw [sc, sc] at s1
      omega
    obtain ⟨z, ⟨lz, sz, rz⟩, k1, k2⟩ := seen_good cl f (x := x) ⟨lx, sx, .refl⟩ _ _ h3
    have : z = y := key_inj (by omega) hk lz ly (fun e he => by have := le_sumN he; omega) (fun e he => by have := le_sumN he; omega) (by omega) k1 k2
    rw [← this]
    exact rz
  · exact (bad_not (by omega) (by omega) (by omega) h3 c).elim
/-- a row laid out by places -/
structure Lay (s : List Nat) (r x : List Int) : Prop where
  len : x.length = s.length
  lt : ∀ p ∈ s, p < r.length
  on : ∀ i, i < s.length → r.getD (s.getD i 0) 0 = x.getD i 0
  off : ∀ p, p ∉ s → r.getD p 0 = 0
theorem nd_inj : ∀ {s : List Nat} {i j : Nat}, s.Nodup → i < s.length → j < s.length → s.getD i 0 = s.getD j 0 → i = j
  | a :: s, 0, 0, _, _, _, _ => rfl
  | a :: s, 0, j + 1, nd, _, hj, e => by
    have hj' : j < s.length := by simpa using hj
    have e' : a = s.getD j 0 := e
    rw [List.getD_eq_getElem?_getD, List.getElem?_eq_getElem hj'] at e'
    exact ((List.nodup_cons.mp nd).1 (by rw [e']; exact List.getElem_mem hj')).elim
  | a :: s, i + 1, 0, nd, hi, _, e => by
    have hi' : i < s.length := by simpa using hi
    have e' : s.getD i 0 = a := e
    rw [List.getD_eq_getElem?_getD, List.getElem?_eq_getElem hi'] at e'
    exact ((List.nodup_cons.mp nd).1 (by rw [← e']; exact List.getElem_mem hi')).elim
  | a :: s, i + 1, j + 1, nd, hi, hj, e => by
    rw [nd_inj (List.nodup_cons.mp nd).2 (by simpa using hi) (by simpa using hj) e]
theorem at_mem {s : List Nat} {i : Nat} (h : i < s.length) : s.getD i 0 ∈ s := by
  rw [List.getD_eq_getElem?_getD, List.getElem?_eq_getElem h]
  exact List.getElem_mem h
theorem Lay.may {s : List Nat} {r x : List Int} (L : Lay s r x) (nd : s.Nodup) {i j : Nat} (m : MayG x i j) : MayG r (s.getD i 0) (s.getD j 0) ∧ Lay s (deed r (s.getD i 0) (s.getD j 0)) (deed x i j) := by
  have hi : i < s.length := by rw [← L.len]; exact m.hi
  have hj : j < s.length := by rw [← L.len]; exact m.hj
  have mr : MayG r (s.getD i 0) (s.getD j 0) := by
    refine ⟨L.lt _ (at_mem hi), L.lt _ (at_mem hj), fun z => m.ne (nd_inj nd hi hj z), ?_, ?_⟩
    · rw [L.on j hj]; exact m.pj
    · rw [L.on j hj, L.on i hi]; exact m.ge
  refine ⟨mr, by rw [deed_len]; exact L.len, fun p hp => by rw [deed_len]; exact L.lt p hp, fun q hq => ?_, fun p hp => ?_⟩
  · rw [deed_get mr, deed_get m, L.on i hi, L.on j hj, L.on q hq]
    by_cases h1 : q = j
    · rw [h1, if_pos rfl, if_pos rfl]
    · rw [if_neg h1, if_neg (fun z => h1 (nd_inj nd hq hj z))]
      by_cases h2 : q = i
      · rw [h2, if_pos rfl, if_pos rfl]
      · rw [if_neg h2, if_neg (fun z => h2 (nd_inj nd hq hi z))]
  · rw [deed_get mr, if_neg (fun z => hp (by rw [z]; exact at_mem hj)), if_neg (fun z => hp (by rw [z]; exact at_mem hi))]
    exact L.off p hp
theorem Lay.re {s : List Nat} (nd : s.Nodup) {r x y : List Int} (L : Lay s r x) (h : Re x y) : ∃ o, Re r o ∧ Lay s o y := by
  induction h with
  | refl => exact ⟨r, .refl, L⟩
  | step _ m ih =>
    obtain ⟨o, ho, Lo⟩ := ih
    have := Lo.may nd m
    exact ⟨_, .step ho this.1, this.2⟩
theorem Lay.eq {s : List Nat} {r r' x : List Int} (L : Lay s r x) (L' : Lay s r' x) (l : r.length = r'.length) : r = r' := by
  refine List.ext_getElem l fun p a b => ?_
  have : r.getD p 0 = r'.getD p 0 := by
    by_cases h : p ∈ s
    · obtain ⟨i, hi, e⟩ := List.getElem_of_mem h
      have e' : s.getD i 0 = p := by rw [List.getD_eq_getElem?_getD, List.getElem?_eq_getElem hi]; exact e
      rw [← e', L.on i hi, L'.on i hi]
    · rw [L.off p h, L'.off p h]
  rwa [getD_eq a, getD_eq b] at this
/-- of so many holders and such a sum all that no clause bars is come to -/
def Full (k : Nat) (n : Int) : Prop := ∀ r o : List Int, (∀ e ∈ r, 0 ≤ e) → (∀ e ∈ o, 0 ≤ e) → r.length = o.length → r.sum = n → cnt r = k → brkF r o = [] → Re r o
theorem sum_cI (w : List Nat) : (cI w).sum = ((w.sum : Nat) : Int) := by
  induction w with
  | nil => rfl
  | cons a w ih =>
    show (Int.ofNat a :: cI w).sum = _
    rw [List.sum_cons, List.sum_cons, ih]
    show (a : Int) + _ = _
    omega
theorem chk_full {B k n f : Nat} (hk : 3 ≤ k) (hn : 0 < n) (hB : n < B) (h128 : n < 128) (h : chk B k n f = true) : Full k n := by
  intro r o nr no l hs hc hb
  by_cases hro : r = o
  · rw [hro]; exact .refl
  have cl : Cl r o := by
    rcases brkF_nil.mp hb with z | ⟨_, z, _⟩
    · exact (hro z).elim
    · exact cl_iff.mp z
  let s0 := (List.range r.length).filter fun p => decide (0 < r.getD p 0)
  let s := s0.mergeSort fun p q => decide (r.getD p 0 ≤ r.getD q 0)
  have ps : s.Perm s0 := List.mergeSort_perm _ _
  have nd : s.Nodup := ps.nodup_iff.mpr (List.Pairwise.filter _ List.nodup_range)
  have mem : ∀ p, p ∈ s ↔ p < r.length ∧ 0 < r.getD p 0 := fun p => by
    rw [ps.mem_iff, List.mem_filter, List.mem_range, decide_eq_true_eq]
  have off : ∀ p, p ∉ s → r.getD p 0 = 0 := fun p hp => by
    by_cases hl : p < r.length
    · have h1 : ¬ 0 < r.getD p 0 := fun z => hp ((mem p).mpr ⟨hl, z⟩)
      have h2 : 0 ≤ r.getD p 0 := by rw [getD_eq hl]; exact nr _ (List.getElem_mem _)
      omega
    · rw [List.getD_eq_getElem?_getD, List.getElem?_eq_none (by omega)]; rfl
  have offo : ∀ p, p ∉ s → o.getD p 0 = 0 := fun p hp => hfn_pos l no cl.hf p (off p hp)
  have atr : ∀ p, 0 ≤ r.getD p 0 := fun p => at_nn nr p
  have ato : ∀ p, 0 ≤ o.getD p 0 := fun p => at_nn no p
  let x := s.map fun p => (r.getD p 0).toNat
  let y := s.map fun p => (o.getD p 0).toNat
  have ex : cI x = s.map fun p => r.getD p 0 := by
    show (s.map _).map _ = _
    rw [List.map_map]
    refine List.map_congr_left fun p _ => ?_
    show (((r.getD p 0).toNat : Nat) : Int) = _
    have := atr p
    omega
  have ey : cI y = s.map fun p => o.getD p 0 := by
    show (s.map _).map _ = _
    rw [List.map_map]
    refine List.map_congr_left fun p _ => ?_
    show (((o.getD p 0).toNat : Nat) : Int) = _
    have := ato p
    omega
  have al : Alike (cI x) (cI y) r o ((List.range r.length).filter fun p => !decide (0 < r.getD p 0)).length := by
    refine ⟨by rw [ex, ey, List.length_map, List.length_map], l, ?_⟩
    rw [← zip_range l, ex, ey, List.zip_map']
    have h1 := (List.filter_append_perm (fun p => decide (0 < r.getD p 0)) (List.range r.length)).symm
    have h2 := h1.map fun j => (r.getD j 0, o.getD j 0)
    rw [List.map_append] at h2
    refine h2.trans (List.Perm.append (ps.symm.map _) ?_)
    have : (((List.range r.length).filter fun p => !decide (0 < r.getD p 0)).map fun j => (r.getD j 0, o.getD j 0)) = List.replicate ((List.range r.length).filter fun p => !decide (0 < r.getD p 0)).length (0, 0) := by
      refine List.eq_replicate_iff.mpr ⟨List.length_map _, fun b hb => ?_⟩
      obtain ⟨p, hp, rfl⟩ := List.mem_map.mp hb
      have h3 : p ∉ s := fun z => by
        have := ((mem p).mp z).2
        have h4 := (List.mem_filter.mp hp).2
        rw [decide_eq_true this] at h4
        cases h4
      rw [off p h3, offo p h3]
    rw [this]
  have sx : x.sum = n := by
    have h1 := sum_more al.fst
    rw [hs, sum_cI] at h1
    omega
  have sy : y.sum = n := by
    have h1 := sum_more al.snd
    rw [cl.sum, hs, sum_cI] at h1
    omega
  have lx : x.length = k := by
    have h1 : s.length = s0.length := ps.length_eq
    have h2 : s0.length = cnt r := by
      rw [cnt_hold]
      show ((List.range r.length).filter _).length = (hold r r.length).length
      unfold hold
      rw [List.length_map]
    rw [List.length_map, h1, h2, hc]
  have ly : y.length = k := by rw [List.length_map, ← lx, List.length_map]
  have px : ∀ a ∈ x, 1 ≤ a := fun a ha => by
    obtain ⟨p, hp, rfl⟩ := List.mem_map.mp ha
    have := ((mem p).mp hp).2
    show 1 ≤ (r.getD p 0).toNat
    omega
  have so : x.Pairwise (· ≤ ·) := by
    have h1 : s.Pairwise fun p q => decide (r.getD p 0 ≤ r.getD q 0) = true := by
      refine List.pairwise_mergeSort (fun a b c h1 h2 => ?_) (fun a b => ?_) _
      · rw [decide_eq_true_eq] at *
        omega
      · rw [Bool.or_eq_true, decide_eq_true_eq, decide_eq_true_eq]
        omega
    refine List.Pairwise.map _ (fun a b h => ?_) h1
    rw [decide_eq_true_eq] at h
    omega
  have nX : ∀ (w : List Nat), ∀ e ∈ cI w, 0 ≤ e := fun w e he => by
    obtain ⟨a, _, rfl⟩ := List.mem_map.mp he
    exact Int.natCast_nonneg a
  have bxy : brkF (cI x) (cI y) = [] := by rw [← al.brk (nX x) (nX y)]; exact hb
  have re : Re (cI x) (cI y) := by
    rcases brkF_nil.mp bxy with z | ⟨_, z, _⟩
    · rw [z]; exact .refl
    · exact chk_tells (by omega) hn hB h128 h lx sx px so ly sy (cl_iff.mp z)
  have lay : ∀ w : List Int, w.length = r.length → (∀ p, p ∉ s → w.getD p 0 = 0) → Lay s w (s.map fun p => w.getD p 0) := fun w lw h1 => by
    refine ⟨List.length_map _, fun p hp => by rw [lw]; exact ((mem p).mp hp).1, fun i hi => ?_, h1⟩
    rw [List.getD_eq_getElem?_getD (l := s.map _), List.getElem?_map, List.getD_eq_getElem?_getD (l := s), List.getElem?_eq_getElem hi]
    rfl
  have Lr := lay r rfl off
  have Lo := lay o l.symm offo
  rw [← ex] at Lr
  rw [← ey] at Lo
  obtain ⟨o', ho, Lo'⟩ := Lr.re nd re
  have lo' : o'.length = o.length := by rw [(ho.keeps nr).1, l]
  rw [Lo.eq Lo' lo'.symm]
  exact ho
end Fc

namespace Fc
theorem c3_1 : chk 16 3 1 1000000 = true := by decide +kernel
theorem c3_2 : chk 16 3 2 1000000 = true := by decide +kernel
theorem c3_3 : chk 16 3 3 1000000 = true := by decide +kernel
theorem c3_4 : chk 16 3 4 1000000 = true := by decide +kernel
theorem c3_5 : chk 16 3 5 1000000 = true := by decide +kernel
theorem c3_6 : chk 16 3 6 1000000 = true := by decide +kernel
theorem c3_7 : chk 16 3 7 1000000 = true := by decide +kernel
theorem c3_8 : chk 16 3 8 1000000 = true := by decide +kernel
theorem c3_9 : chk 16 3 9 1000000 = true := by decide +kernel
theorem c3_10 : chk 16 3 10 1000000 = true := by decide +kernel
theorem c3_11 : chk 16 3 11 1000000 = true := by decide +kernel
theorem c3_12 : chk 16 3 12 1000000 = true := by decide +kernel
theorem c3_13 : chk 16 3 13 1000000 = true := by decide +kernel
theorem c3_14 : chk 16 3 14 1000000 = true := by decide +kernel
theorem full3 : ∀ n : Nat, 1 ≤ n → n ≤ 14 → Full 3 n
  | 0, h, _ => by omega
  | 1, _, _ => chk_full (by decide) (by decide) (by decide) (by decide) c3_1
  | 2, _, _ => chk_full (by decide) (by decide) (by decide) (by decide) c3_2
  | 3, _, _ => chk_full (by decide) (by decide) (by decide) (by decide) c3_3
  | 4, _, _ => chk_full (by decide) (by decide) (by decide) (by decide) c3_4
  | 5, _, _ => chk_full (by decide) (by decide) (by decide) (by decide) c3_5
  | 6, _, _ => chk_full (by decide) (by decide) (by decide) (by decide) c3_6
  | 7, _, _ => chk_full (by decide) (by decide) (by decide) (by decide) c3_7
  | 8, _, _ => chk_full (by decide) (by decide) (by decide) (by decide) c3_8
  | 9, _, _ => chk_full (by decide) (by decide) (by decide) (by decide) c3_9
  | 10, _, _ => chk_full (by decide) (by decide) (by decide) (by decide) c3_10
  | 11, _, _ => chk_full (by decide) (by decide) (by decide) (by decide) c3_11
  | 12, _, _ => chk_full (by decide) (by decide) (by decide) (by decide) c3_12
  | 13, _, _ => chk_full (by decide) (by decide) (by decide) (by decide) c3_13
  | 14, _, _ => chk_full (by decide) (by decide) (by decide) (by decide) c3_14
  | n + 15, _, h => by omega
end Fc

namespace Fc
theorem c4_1 : chk 16 4 1 1000000 = true := by decide +kernel
theorem c4_2 : chk 16 4 2 1000000 = true := by decide +kernel
theorem c4_3 : chk 16 4 3 1000000 = true := by decide +kernel
theorem c4_4 : chk 16 4 4 1000000 = true := by decide +kernel
theorem c4_5 : chk 16 4 5 1000000 = true := by decide +kernel
theorem c4_6 : chk 16 4 6 1000000 = true := by decide +kernel
theorem c4_7 : chk 16 4 7 1000000 = true := by decide +kernel
theorem c4_8 : chk 16 4 8 1000000 = true := by decide +kernel
theorem c4_9 : chk 16 4 9 1000000 = true := by decide +kernel
theorem c4_10 : chk 16 4 10 1000000 = true := by decide +kernel
theorem c4_11 : chk 16 4 11 1000000 = true := by decide +kernel
theorem c4_12 : chk 16 4 12 1000000 = true := by decide +kernel
theorem c4_13 : chk 16 4 13 1000000 = true := by decide +kernel
theorem c4_14 : chk 16 4 14 1000000 = true := by decide +kernel
theorem full4 : ∀ n : Nat, 1 ≤ n → n ≤ 14 → Full 4 n
  | 0, h, _ => by omega
  | 1, _, _ => chk_full (by decide) (by decide) (by decide) (by decide) c4_1
  | 2, _, _ => chk_full (by decide) (by decide) (by decide) (by decide) c4_2
  | 3, _, _ => chk_full (by decide) (by decide) (by decide) (by decide) c4_3
  | 4, _, _ => chk_full (by decide) (by decide) (by decide) (by decide) c4_4
  | 5, _, _ => chk_full (by decide) (by decide) (by decide) (by decide) c4_5
  | 6, _, _ => chk_full (by decide) (by decide) (by decide) (by decide) c4_6
  | 7, _, _ => chk_full (by decide) (by decide) (by decide) (by decide) c4_7
  | 8, _, _ => chk_full (by decide) (by decide) (by decide) (by decide) c4_8
  | 9, _, _ => chk_full (by decide) (by decide) (by decide) (by decide) c4_9
  | 10, _, _ => chk_full (by decide) (by decide) (by decide) (by decide) c4_10
  | 11, _, _ => chk_full (by decide) (by decide) (by decide) (by decide) c4_11
  | 12, _, _ => chk_full (by decide) (by decide) (by decide) (by decide) c4_12
  | 13, _, _ => chk_full (by decide) (by decide) (by decide) (by decide) c4_13
  | 14, _, _ => chk_full (by decide) (by decide) (by decide) (by decide) c4_14
  | n + 15, _, h => by omega
end Fc

/-! MMd: what is come to is barred by no clause; rows of three or four holders and a sum of 14 at most: the other way about too -/
namespace MG
open PySem PySem.Spec PyProof.Rows L2
theorem re_brk {r o : List Int} (nr : ∀ n ∈ r, 0 ≤ n) (h : Re r o) : brkF r o = [] := by
  induction h with
  | refl => exact brkF_nil.mpr (.inl rfl)
  | step g m ih =>
    have k := (g.keeps nr).2.2
    exact brk_trans nr k (deed_nn m k) ih (brk_deed m k)
theorem cnt_sum : ∀ {r : List Int}, (∀ n ∈ r, 0 ≤ n) → (cnt r : Int) ≤ r.sum
  | [], _ => Int.le_refl _
  | x :: r, h => by
    have ih := cnt_sum (r := r) fun n hn => h n (List.mem_cons_of_mem _ hn)
    have hx := h x List.mem_cons_self
    unfold MG.cnt at ih ⊢
    rw [List.filter_cons, List.sum_cons]
    by_cases h0 : 0 < x
    · rw [if_pos (decide_eq_true h0), List.length_cons]
      omega
    · rw [if_neg (by rw [decide_eq_false h0]; decide)]
      omega
theorem come4 {r o : List Int} (nr : ∀ n ∈ r, 0 ≤ n) (no : ∀ n ∈ o, 0 ≤ n) (l : r.length = o.length) (c3 : 3 ≤ cnt r) (c4 : cnt r ≤ 4) (hs : r.sum ≤ 14) (hb : brkF r o = []) : Re r o := by
  have h := cnt_sum nr
  obtain ⟨n, hn⟩ : ∃ n : Nat, r.sum = n := ⟨r.sum.toNat, by omega⟩
  by_cases c : cnt r = 3
  · exact Fc.full3 n (by omega) (by omega) r o nr no l hn c hb
  · exact Fc.full4 n (by omega) (by omega) r o nr no l hn (by omega) hb
end MG

namespace Fc
theorem c5_1 : chk 16 5 1 1000000 = true := by decide +kernel
theorem c5_2 : chk 16 5 2 1000000 = true := by decide +kernel
theorem c5_3 : chk 16 5 3 1000000 = true := by decide +kernel
theorem c5_4 : chk 16 5 4 1000000 = true := by decide +kernel
theorem c5_5 : chk 16 5 5 1000000 = true := by decide +kernel
theorem c5_6 : chk 16 5 6 1000000 = true := by decide +kernel
theorem c5_7 : chk 16 5 7 1000000 = true := by decide +kernel
theorem c5_8 : chk 16 5 8 1000000 = true := by decide +kernel
theorem c5_9 : chk 16 5 9 1000000 = true := by decide +kernel
theorem c5_10 : chk 16 5 10 1000000 = true := by decide +kernel
theorem c5_11 : chk 16 5 11 1000000 = true := by decide +kernel
theorem c5_12 : chk 16 5 12 1000000 = true := by decide +kernel
theorem full5 : ∀ n : Nat, 1 ≤ n → n ≤ 12 → Full 5 n
  | 0, h, _ => by omega
  | 1, _, _ => chk_full (by decide) (by decide) (by decide) (by decide) c5_1
  | 2, _, _ => chk_full (by decide) (by decide) (by decide) (by decide) c5_2
  | 3, _, _ => chk_full (by decide) (by decide) (by decide) (by decide) c5_3
  | 4, _, _ => chk_full (by decide) (by decide) (by decide) (by decide) c5_4
  | 5, _, _ => chk_full (by decide) (by decide) (by decide) (by decide) c5_5
  | 6, _, _ => chk_full (by decide) (by decide) (by decide) (by decide) c5_6
  | 7, _, _ => chk_full (by decide) (by decide) (by decide) (by decide) c5_7
  | 8, _, _ => chk_full (by decide) (by decide) (by decide) (by decide) c5_8
  | 9, _, _ => chk_full (by decide) (by decide) (by decide) (by decide) c5_9
  | 10, _, _ => chk_full (by decide) (by decide) (by decide) (by decide) c5_10
  | 11, _, _ => chk_full (by decide) (by decide) (by decide) (by decide) c5_11
  | 12, _, _ => chk_full (by decide) (by decide) (by decide) (by decide) c5_12
  | n + 13, _, h => by omega
end Fc

/-! MMe: three to five holders and a sum of 12 at most; a meeting is told just where there is a row that comes of all -/
namespace MG
open PySem PySem.Spec PyProof.Rows L2
theorem come12 {r o : List Int} (nr : ∀ n ∈ r, 0 ≤ n) (no : ∀ n ∈ o, 0 ≤ n) (l : r.length = o.length) (c3 : 3 ≤ cnt r) (c5 : cnt r ≤ 5) (hs : r.sum ≤ 12) (hb : brkF r o = []) : Re r o := by
  by_cases c : cnt r ≤ 4
  · exact come4 nr no l c3 c (by omega) hb
  · have h := cnt_sum nr
    obtain ⟨n, hn⟩ : ∃ n : Nat, r.sum = n := ⟨r.sum.toNat, by omega⟩
    exact Fc.full5 n (by omega) (by omega) r o nr no l hn (by omega) hb
theorem brkT_cl {r o : List Int} (h : brkT r o = []) : r = o ∨ (r.length = o.length ∧ Cl r o) := by
  unfold brkT at h
  by_cases e : r = o
  · exact .inl e
  · rw [if_neg e] at h
    by_cases l : r.length ≠ o.length
    · rw [if_pos l] at h
      cases h
    · rw [if_neg l] at h
      exact .inr ⟨Decidable.of_not_not l, cl_iff.mp h⟩
theorem meet_all {n : Nat} {S : Int} {R : List (List Int)} {o : List Int} (h : meetF n S R = some o) : (∀ r ∈ R, r.length = n ∧ r.sum = S) ∧ ∀ r ∈ R, brkT r o = [] := by
  unfold meetF at h
  cases hu : unlike n S R with
  | true => rw [hu, if_pos rfl] at h; cases h
  | false =>
    rw [hu, if_neg Bool.false_ne_true] at h
    refine ⟨fun r hr => ?_, fun r hr => ?_⟩
    · unfold unlike at hu
      have := List.any_eq_false.mp hu r hr
      simp only [Bool.or_eq_true, decide_eq_true_eq, not_or, ne_eq, Decidable.not_not] at this
      exact this
    · split at h
      · cases h
      · split at h
        · rename_i h1
          cases h
          exact h1 r hr
        · cases h
/-- where a row comes of all, a meeting is told -/
theorem meet_told {n : Nat} {S : Int} {R : List (List Int)} {r0 o : List Int} (h0 : r0 ∈ R) (l0 : r0.length = n) (S0 : r0.sum = S) (nn : ∀ r ∈ R, ∀ x ∈ r, 0 ≤ x) (h3 : ∀ r ∈ R, 3 ≤ (hold r r.length).length) (hS : 0 < S) (no : ∀ x ∈ o, 0 ≤ x)
    (hb : ∀ r ∈ R, brkT r o = []) : (meetF n S R).isSome = true := by
  have eqs : ∀ r ∈ R, r.length = o.length ∧ o.sum = r.sum ∧ ms o = ms r ∧ ∀ p, r.getD p 0 = 0 → o.getD p 0 = 0 := fun r hr => by
    rcases brkT_cl (hb r hr) with z | ⟨l, c⟩
    · subst z
      exact ⟨rfl, rfl, rfl, fun p h => h⟩
    · exact ⟨l, c.sum, c.ms, fun p h => hfn_pos l no c.hf p h⟩
  have e0 := eqs r0 h0
  have lo : o.length = n := by rw [← l0, e0.1]
  have so : o.sum = S := by rw [← S0, e0.2.1]
  rw [meet_due h0 nn h3 hS]
  refine ⟨?_, fun r hr => by rw [← (eqs r hr).2.2.1, e0.2.2.1], ?_⟩
  · unfold unlike
    refine List.any_eq_false.mpr fun r hr => ?_
    have := eqs r hr
    simp only [Bool.or_eq_true, decide_eq_true_eq, not_or, ne_eq, Decidable.not_not]
    exact ⟨by rw [this.1, lo], by rw [← this.2.1, so]⟩
  · -- the holders of o have something in all of them
    have sub : ∀ p, p < n → 0 < o.getD p 0 → (p : Int) ∈ plF n R := fun p hp h => by
      refine List.mem_map.mpr ⟨p, List.mem_filter.mpr ⟨List.mem_range.mpr hp, List.all_eq_true.mpr fun r hr => decide_eq_true ?_⟩, rfl⟩
      have h1 := (eqs r hr).2.2.2 p
      have h2 := at_nn (nn r hr) p
      by_cases z : r.getD p 0 = 0
      · rw [h1 z] at h; omega
      · omega
    by_cases one : ∃ p, p < n ∧ ∀ q, q ≠ p → o.getD q 0 = 0
    · obtain ⟨p, hp, hq⟩ := one
      have hz : ∀ q, o.getD q 0 = ((List.replicate n (0 : Int)).set p (o.getD p 0)).getD q 0 := fun q => by
        by_cases e : q = p
        · subst e
          rw [List.getD_eq_getElem?_getD (l := List.set _ _ _), List.getElem?_set_self (by rw [List.length_replicate]; exact hp)]
          rfl
        · rw [hq q e, List.getD_eq_getElem?_getD, List.getElem?_set_ne (fun z => e z.symm), ← List.getD_eq_getElem?_getD, rep_at]
      have eo : o = (List.replicate n (0 : Int)).set p (o.getD p 0) := by
        refine List.ext_getElem (by rw [List.length_set, List.length_replicate, lo]) fun q a b => ?_
        have := hz q
        rwa [getD_eq a, getD_eq b] at this
      have hp' : p < o.length := by omega
      have sp : o.getD p 0 = S := by
        rw [← so]
        rw [eo, sum_setG _ p (by rw [List.length_replicate]; exact hp), sum_zero (l := List.replicate n (0 : Int)) fun x hx => List.eq_of_mem_replicate hx]
        rw [List.getElem_replicate, ← hz p]
        omega
      have hpl := sub p hp (by omega)
      have hlen := List.length_pos_of_mem hpl
      by_cases two : 2 ≤ (plF n R).length
      · exact .inl two
      · refine .inr ⟨by omega, ?_⟩
        have g1 : gl o = S.toNat := by
          apply Nat.dvd_antisymm
          · have := gl_dvd (l := o) (n := S) (by rw [← sp, getD_eq hp']; exact List.getElem_mem hp')
            exact this
          · have : ∀ {l : List Int}, (∀ x ∈ l, S.toNat ∣ x.toNat) → S.toNat ∣ gl l := by
              intro l
              induction l with
              | nil => intro _; exact Nat.dvd_zero _
              | cons x l ih => intro h; exact Nat.dvd_gcd (h x List.mem_cons_self) (ih fun y hy => h y (List.mem_cons_of_mem _ hy))
            refine this fun x hx => ?_
            obtain ⟨q, hq1, rfl⟩ := List.getElem_of_mem hx
            by_cases e : q = p
            · subst e
              rw [← getD_eq hq1, sp]
              exact Nat.dvd_refl _
            · rw [← getD_eq hq1, hq q e]
              exact Nat.dvd_zero _
        have h1 := e0.2.2.1
        rw [ms_nat, ms_nat, g1] at h1
        omega
    · left
      have hpos : ∃ x ∈ o, 0 < x := by
        apply Classical.byContradiction
        intro z
        have : o.sum = 0 := sum_zero fun x hx => by
          have := no x hx
          have : ¬ 0 < x := fun y => z ⟨x, hx, y⟩
          omega
        omega
      obtain ⟨x, hx, hx0⟩ := hpos
      obtain ⟨p, hp, rfl⟩ := List.getElem_of_mem hx
      have h2 : ∃ q, q ≠ p ∧ o.getD q 0 ≠ 0 := by
        apply Classical.byContradiction
        intro z
        exact one ⟨p, by omega, fun q e => Classical.byContradiction fun y => z ⟨q, e, y⟩⟩
      obtain ⟨q, hq, hq0⟩ := h2
      have ql : q < o.length := by
        apply Classical.byContradiction
        intro z
        rw [List.getD_eq_getElem?_getD, List.getElem?_eq_none (by omega)] at hq0
        exact hq0 rfl
      have a := sub p (by omega) (by rw [getD_eq hp]; exact hx0)
      have b := sub q (by omega) (by have := at_nn no q; omega)
      match h : plF n R, a, b with
      | [], a, _ => cases a
      | [c], a, b =>
        rw [List.mem_singleton] at a b
        omega
      | c :: d :: l, _, _ => simp
end MG

/-! MMg: rows many times and deeds; six holders -/
namespace MG
open PySem PySem.Spec PyProof.Rows L2
theorem sc_deed (c : Int) (r : List Int) (i j : Nat) : deed (sc c r) i j = sc c (deed r i j) := by
  unfold deed
  rw [sc_at, sc_at]
  unfold sc
  rw [List.map_set, List.map_set, Int.mul_sub, Int.mul_left_comm]
theorem sc_may {c : Int} (hc : 0 < c) {r : List Int} {i j : Nat} : MayG (sc c r) i j ↔ MayG r i j := by
  constructor
  · intro m
    have h1 := m.pj
    have h2 := m.ge
    rw [sc_at] at h1
    rw [sc_at, sc_at] at h2
    exact ⟨by rw [← sc_len c r]; exact m.hi, by rw [← sc_len c r]; exact m.hj, m.ne, (mul_pos_iff' hc).mp h1, Int.le_of_mul_le_mul_left h2 hc⟩
  · intro m
    refine ⟨by rw [sc_len]; exact m.hi, by rw [sc_len]; exact m.hj, m.ne, ?_, ?_⟩
    · rw [sc_at]; exact (mul_pos_iff' hc).mpr m.pj
    · rw [sc_at, sc_at]; exact Int.mul_le_mul_of_nonneg_left m.ge (by omega)
theorem re_sc {c : Int} (hc : 0 < c) {r o : List Int} (h : Re r o) : Re (sc c r) (sc c o) := by
  induction h with
  | refl => exact .refl
  | step _ m ih =>
    rw [← sc_deed]
    exact .step ih ((sc_may hc).mpr m)
theorem re_of_sc {c : Int} (hc : 0 < c) {r o : List Int} (h : Re (sc c r) o) : ∃ o', o = sc c o' ∧ Re r o' := by
  induction h with
  | refl => exact ⟨r, rfl, .refl⟩
  | step _ m ih =>
    obtain ⟨o', rfl, g⟩ := ih
    exact ⟨_, sc_deed c o' _ _, .step g ((sc_may hc).mp m)⟩
end MG

namespace Fc
theorem all_split {α : Type} {p : α → Bool} {xs : List α} (m : Nat) (h1 : (xs.take m).all p = true) (h2 : (xs.drop m).all p = true) : xs.all p = true := by
  rw [← List.take_append_drop m xs, List.all_append, h1, h2]
  rfl
noncomputable def chx (B k n f : Nat) (x : List Nat) : Bool := ok1 B (Nat.pow B (k - 2)) k n x (seen B (Nat.pow B (k - 2)) (prs B k) f x)
theorem c6_6 : chk 16 6 6 1000000 = true := by decide +kernel
theorem c6_7 : chk 16 6 7 1000000 = true := by decide +kernel
theorem c6_8 : chk 16 6 8 1000000 = true := by decide +kernel
theorem c6_9 : chk 16 6 9 1000000 = true := by decide +kernel
theorem c6_11_0 : (((part 6 11 1).drop 0).take 1).all (chx 16 6 11 1000000) = true := by decide +kernel
theorem c6_11_1 : (((part 6 11 1).drop 1).take 1).all (chx 16 6 11 1000000) = true := by decide +kernel
theorem c6_11_2 : (((part 6 11 1).drop 2).take 1).all (chx 16 6 11 1000000) = true := by decide +kernel
theorem c6_11_3 : (((part 6 11 1).drop 3).take 1).all (chx 16 6 11 1000000) = true := by decide +kernel
theorem c6_11_4 : (((part 6 11 1).drop 4).take 1).all (chx 16 6 11 1000000) = true := by decide +kernel
theorem c6_11_5 : (((part 6 11 1).drop 5).take 1).all (chx 16 6 11 1000000) = true := by decide +kernel
theorem c6_11_6 : (((part 6 11 1).drop 6).take 1).all (chx 16 6 11 1000000) = true := by decide +kernel
theorem c6_11_7 : ((part 6 11 1).drop 7).all (chx 16 6 11 1000000) = true := by decide +kernel
theorem c6_11 : chk 16 6 11 1000000 = true := by
  show (part 6 11 1).all (chx 16 6 11 1000000) = true
  have step : ∀ m, (((part 6 11 1).drop m).take 1).all (chx 16 6 11 1000000) = true → ((part 6 11 1).drop (m + 1)).all (chx 16 6 11 1000000) = true → ((part 6 11 1).drop m).all (chx 16 6 11 1000000) = true := fun m h1 h2 => all_split 1 h1 (by rw [List.drop_drop]; exact h2)
  exact step 0 c6_11_0 (step 1 c6_11_1 (step 2 c6_11_2 (step 3 c6_11_3 (step 4 c6_11_4 (step 5 c6_11_5 (step 6 c6_11_6 (c6_11_7)))))))
theorem full6 : ∀ n : Nat, n = 6 ∨ n = 7 ∨ n = 8 ∨ n = 9 ∨ n = 11 → Full 6 n
  | n, h => by
    rcases h with rfl | rfl | rfl | rfl | rfl
    · exact chk_full (by decide) (by decide) (by decide) (by decide) c6_6
    · exact chk_full (by decide) (by decide) (by decide) (by decide) c6_7
    · exact chk_full (by decide) (by decide) (by decide) (by decide) c6_8
    · exact chk_full (by decide) (by decide) (by decide) (by decide) c6_9
    · exact chk_full (by decide) (by decide) (by decide) (by decide) c6_11
end Fc

/-! MMh: rows of five or six holders, many times a small one -/
namespace MG
open PySem PySem.Spec PyProof.Rows L2
theorem cnt_zero : ∀ {r o : List Int}, r.length = o.length → (∀ p, r.getD p 0 = 0 → o.getD p 0 = 0) → (∀ x ∈ r, 0 ≤ x) → cnt o ≤ cnt r
  | [], [], _, _, _ => Nat.le_refl _
  | [], _ :: _, h, _, _ => by simp at h
  | _ :: _, [], h, _, _ => by simp at h
  | x :: r, y :: o, hl, h, nn => by
    have ih := cnt_zero (r := r) (o := o) (by simpa using hl) (fun p hp => h (p + 1) hp) fun z hz => nn z (List.mem_cons_of_mem _ hz)
    have h0 : x = 0 → y = 0 := h 0
    have hx := nn x List.mem_cons_self
    unfold MG.cnt at ih ⊢
    rw [List.filter_cons, List.filter_cons]
    by_cases hy : 0 < y
    · have hx0 : 0 < x := by
        have : x ≠ 0 := fun z => by have := h0 z; omega
        omega
      rw [if_pos (decide_eq_true hy), if_pos (decide_eq_true hx0), List.length_cons, List.length_cons]
      omega
    · rw [if_neg (by rw [decide_eq_false hy]; decide)]
      split
      · rw [List.length_cons]; omega
      · exact ih
theorem re_zero {r o : List Int} (nr : ∀ n ∈ r, 0 ≤ n) (h : Re r o) (p : Nat) (hp : r.getD p 0 = 0) : o.getD p 0 = 0 := by
  rcases brkF_nil.mp (re_brk nr h) with e | ⟨l, c, _⟩
  · rw [← e]; exact hp
  · exact hfn_pos l (h.keeps nr).2.2 (cl_iff.mp c).hf p hp
theorem re_cnt {r o : List Int} (nr : ∀ n ∈ r, 0 ≤ n) (h : Re r o) : cnt o ≤ cnt r := cnt_zero (h.keeps nr).1.symm (re_zero nr h) nr
theorem cl_dvd {r o : List Int} (hr : 0 < gl r) (ho : 0 < gl o) (c : Cl r o) : gl r ∣ gl o := by
  have h1 := c.ms
  rw [ms_nat, ms_nat] at h1
  have h2 : gl o / 2 ^ v2 (gl o) = gl r / 2 ^ v2 (gl r) := by omega
  have e1 : gl r = 2 ^ v2 (gl r) * (gl r / 2 ^ v2 (gl r)) := (Nat.mul_div_cancel' (pow_v2_dvd _)).symm
  have e2 : gl o = 2 ^ v2 (gl o) * (gl o / 2 ^ v2 (gl o)) := (Nat.mul_div_cancel' (pow_v2_dvd _)).symm
  rw [e1, e2, h2]
  exact Nat.mul_dvd_mul (Nat.pow_dvd_pow 2 c.tw) (Nat.dvd_refl _)
/-- a small row many times -/
def Frm (r : List Int) : Prop := ∃ (C : Int) (X : List Int), 0 < C ∧ r = sc C X ∧ (∀ x ∈ X, 0 ≤ x) ∧ X.length ≤ 6 ∧ X.sum ≤ 12 ∧ (cnt X ≤ 5 ∨ (cnt X = 6 ∧ (X.sum = 6 ∨ X.sum = 7 ∨ X.sum = 8 ∨ X.sum = 9 ∨ X.sum = 11)))
theorem Frm.nn {r : List Int} (h : Frm r) : ∀ x ∈ r, 0 ≤ x := by
  obtain ⟨C, X, hC, rfl, nX, _⟩ := h
  exact sc_nn hC nX
theorem Frm.re {r o : List Int} (h : Frm r) (g : Re r o) : Frm o := by
  obtain ⟨C, X, hC, rfl, nX, l, s, c⟩ := h
  obtain ⟨Y, rfl, g'⟩ := re_of_sc hC g
  have k := g'.keeps nX
  have cc := re_cnt nX g'
  refine ⟨C, Y, hC, rfl, k.2.2, by rw [k.1]; exact l, by rw [k.2.1]; exact s, ?_⟩
  rcases c with c | ⟨c, c'⟩
  · exact .inl (by omega)
  · by_cases z : cnt Y = 6
    · exact .inr ⟨z, by rw [k.2.1]; exact c'⟩
    · exact .inl (by omega)
theorem Frm.come {r o : List Int} (h : Frm r) (c3 : 3 ≤ cnt r) (no : ∀ x ∈ o, 0 ≤ x) (l : r.length = o.length) (hb : brkF r o = []) : Re r o := by
  rcases brkF_nil.mp hb with e | ⟨_, cc, _⟩
  · rw [e]; exact .refl
  have c := cl_iff.mp cc
  obtain ⟨C, X, hC, rfl, nX, lX, sX, hX⟩ := h
  have cX : cnt (sc C X) = cnt X := sc_cnt hC X
  rw [cX] at c3
  have cs := cnt_sum nX
  have nr := sc_nn hC nX
  have gX : 0 < gl X := pos_gl nX (by omega)
  have gr : gl (sc C X) = C.toNat * gl X := sc_gl hC nX
  have gr0 : 0 < gl (sc C X) := by rw [gr]; exact Nat.mul_pos (by omega) gX
  have so : 0 < o.sum := by
    rw [c.sum, sc_sum]
    exact Int.mul_pos hC (by omega)
  have go0 : 0 < gl o := pos_gl no so
  have dv : ∀ x ∈ o, C * (x / C) = x := fun x hx => by
    have h1 : C.toNat ∣ x.toNat := Nat.dvd_trans (Nat.dvd_trans ⟨gl X, gr⟩ (cl_dvd gr0 go0 c)) (gl_dvd hx)
    obtain ⟨q, hq⟩ := h1
    have hx0 := no x hx
    have : x = C * (q : Int) := by
      have e1 : (x.toNat : Int) = ((C.toNat * q : Nat) : Int) := by rw [hq]
      rw [Int.natCast_mul] at e1
      rw [show (C.toNat : Int) = C by omega] at e1
      omega
    rw [this, Int.mul_ediv_cancel_left _ (by omega)]
  have eo : o = sc C (o.map fun x => x / C) := by
    unfold sc
    rw [List.map_map]
    exact ((List.map_congr_left (g := id) fun x hx => dv x hx).trans (List.map_id _)).symm
  have nY : ∀ x ∈ o.map fun x => x / C, 0 ≤ x := fun x hx => by
    obtain ⟨y, hy, rfl⟩ := List.mem_map.mp hx
    exact Int.ediv_nonneg (no y hy) (by omega)
  generalize o.map (fun x => x / C) = Y at eo nY
  subst eo
  rw [sc_len, sc_len] at l
  have gY : 0 < gl Y := by
    rw [sc_gl hC nY] at go0
    exact Nat.pos_of_mul_pos_left go0
  rw [sc_brkF hC nX nY gX gY] at hb
  refine re_sc hC ?_
  rcases hX with hX | ⟨hX, hs⟩
  · exact come12 nX nY l c3 hX sX hb
  · obtain ⟨n, hn⟩ : ∃ n : Nat, X.sum = n := ⟨X.sum.toNat, by omega⟩
    exact Fc.full6 n (by omega) X Y nX nY l hn hX hb
end MG

/-! MPa: rows of one or two holders: what no clause bars is come to -/
namespace MG
open PySem PySem.Spec PyProof.Rows
/-- a row with two amounts written -/
def tw2 (r : List Int) (p q : Nat) (a b : Int) : List Int := (r.set p a).set q b
section
variable {r : List Int} {p q : Nat}
theorem tw2_p {a b : Int} (hp : p < r.length) (ne : p ≠ q) (hq : q < r.length) : (tw2 r p q a b).getD p 0 = a := by
  unfold tw2
  rw [getD_set (by rw [List.length_set]; exact hq), if_neg (Ne.symm ne), getD_set hp, if_pos rfl]
theorem tw2_q {a b : Int} (hq : q < r.length) : (tw2 r p q a b).getD q 0 = b := by
  unfold tw2
  rw [getD_set (by rw [List.length_set]; exact hq), if_pos rfl]
theorem tw2_len {a b : Int} : (tw2 r p q a b).length = r.length := by
  unfold tw2
  rw [List.length_set, List.length_set]
theorem tw2_deed {a b : Int} (hp : p < r.length) (hq : q < r.length) (ne : p ≠ q) : deed (tw2 r p q a b) p q = tw2 r p q (a - b) (2 * b) := by
  unfold deed
  rw [tw2_p hp ne hq, tw2_q hq]
  unfold tw2
  rw [List.set_comm _ _ (Ne.symm ne), List.set_set, List.set_set]
theorem tw2_deed' {a b : Int} (hp : p < r.length) (hq : q < r.length) (ne : p ≠ q) : deed (tw2 r p q a b) q p = tw2 r p q (2 * a) (b - a) := by
  unfold deed
  rw [tw2_p hp ne hq, tw2_q hq]
  unfold tw2
  rw [List.set_set, List.set_comm _ _ (Ne.symm ne), List.set_set]
theorem tw2_may {a b : Int} (hp : p < r.length) (hq : q < r.length) (ne : p ≠ q) (hb : 0 < b) (h : b ≤ a) : MayG (tw2 r p q a b) p q :=
  ⟨by rw [tw2_len]; exact hp, by rw [tw2_len]; exact hq, ne, by rw [tw2_q hq]; exact hb, by rw [tw2_q hq, tw2_p hp ne hq]; exact h⟩
theorem tw2_may' {a b : Int} (hp : p < r.length) (hq : q < r.length) (ne : p ≠ q) (ha : 0 < a) (h : a ≤ b) : MayG (tw2 r p q a b) q p :=
  ⟨by rw [tw2_len]; exact hq, by rw [tw2_len]; exact hp, Ne.symm ne, by rw [tw2_p hp ne hq]; exact ha, by rw [tw2_p hp ne hq, tw2_q hq]; exact h⟩
theorem dblm (s x m : Nat) : x * 2 ^ (m + 1) % s = 2 * (x * 2 ^ m % s) % s := by
  rw [Nat.pow_succ, ← Nat.mul_assoc, Nat.mul_comm _ 2, Nat.mul_mod_mod]
/-- so many deeds between two -/
theorem tw2_go {x y : Nat} (hp : p < r.length) (hq : q < r.length) (ne : p ≠ q) (hx : 0 < x) (hy : 0 < y) (R0 : Re r (tw2 r p q x y)) :
    ∀ m, (∀ j, j ≤ m → x * 2 ^ j % (x + y) ≠ 0) → Re r (tw2 r p q (x * 2 ^ m % (x + y) : Nat) ((x + y - x * 2 ^ m % (x + y) : Nat) : Int))
  | 0, h => by
    rw [Nat.pow_zero, Nat.mul_one, Nat.mod_eq_of_lt (by omega), show x + y - x = y by omega]
    exact R0
  | m + 1, h => by
    have ih := tw2_go hp hq ne hx hy R0 m fun j hj => h j (by omega)
    have h1 := h (m + 1) (Nat.le_refl _)
    have h0 := h m (by omega)
    have hl : x * 2 ^ m % (x + y) < x + y := Nat.mod_lt _ (by omega)
    rw [dblm] at h1 ⊢
    generalize x * 2 ^ m % (x + y) = a at ih h1 h0 hl ⊢
    by_cases c : 2 * a < x + y
    · rw [Nat.mod_eq_of_lt c] at h1 ⊢
      have d := Re.step ih (tw2_may' hp hq ne (by omega) (by omega))
      rw [tw2_deed' hp hq ne] at d
      rw [show ((2 * a : Nat) : Int) = 2 * (a : Int) by omega, show ((x + y - 2 * a : Nat) : Int) = ((x + y - a : Nat) : Int) - (a : Int) by omega]
      exact d
    · have e : 2 * a % (x + y) = 2 * a - (x + y) := by
        rw [Nat.mod_eq_sub_mod (by omega), Nat.mod_eq_of_lt (by omega)]
      rw [e] at h1 ⊢
      have d := Re.step ih (tw2_may hp hq ne (by omega) (by omega))
      rw [tw2_deed hp hq ne] at d
      rw [show ((2 * a - (x + y) : Nat) : Int) = (a : Int) - ((x + y - a : Nat) : Int) by omega, show ((x + y - (2 * a - (x + y)) : Nat) : Int) = 2 * ((x + y - a : Nat) : Int) by omega]
      exact d
theorem pr_re {x y u v : Nat} (hp : p < r.length) (hq : q < r.length) (ne : p ≠ q) (hx : 0 < x) (hy : 0 < y) (R0 : Re r (tw2 r p q x y)) (h : Pr x y u v) : Re r (tw2 r p q u v) := by
  obtain ⟨m, hm, e⟩ := h
  by_cases z : ∃ j, j ≤ m ∧ x * 2 ^ j % (x + y) = 0
  · -- some time one has all
    have ex : ∃ j, x * 2 ^ j % (x + y) = 0 := ⟨z.choose, z.choose_spec.2⟩
    obtain ⟨j, hj, hl⟩ : ∃ j, x * 2 ^ j % (x + y) = 0 ∧ ∀ i, i < j → x * 2 ^ i % (x + y) ≠ 0 := by
      have : ∀ n, (∃ j, j ≤ n ∧ x * 2 ^ j % (x + y) = 0) → ∃ j, x * 2 ^ j % (x + y) = 0 ∧ ∀ i, i < j → x * 2 ^ i % (x + y) ≠ 0 := fun n => by
        induction n with
        | zero =>
          rintro ⟨j, hj, e⟩
          exact ⟨j, e, fun i hi => by omega⟩
        | succ n ih =>
          rintro ⟨j, hj, e⟩
          by_cases w : ∃ j, j ≤ n ∧ x * 2 ^ j % (x + y) = 0
          · exact ih w
          · exact ⟨j, e, fun i hi c => w ⟨i, by omega, c⟩⟩
      exact this m z
    have um : u % (x + y) = 0 := by
      obtain ⟨i, hi, e0⟩ := z
      rw [← hm, show m = i + (m - i) by omega, Nat.pow_add, ← Nat.mul_assoc, Nat.mul_mod, e0, Nat.zero_mul, Nat.zero_mod]
    cases j with
    | zero =>
      rw [Nat.pow_zero, Nat.mul_one, Nat.mod_eq_of_lt (by omega)] at hj
      omega
    | succ j =>
      have g := tw2_go hp hq ne hx hy R0 j fun i hi => hl i (by omega)
      have h0 := hl j (by omega)
      have hlt : x * 2 ^ j % (x + y) < x + y := Nat.mod_lt _ (by omega)
      rw [dblm] at hj
      generalize x * 2 ^ j % (x + y) = a at g h0 hlt hj
      have e2 : 2 * a = x + y := by
        by_cases c : 2 * a < x + y
        · rw [Nat.mod_eq_of_lt c] at hj; omega
        · rw [Nat.mod_eq_sub_mod (by omega), Nat.mod_eq_of_lt (by omega)] at hj; omega
      by_cases u0 : u = 0
      · have d := Re.step g (tw2_may hp hq ne (by omega) (by omega))
        rw [tw2_deed hp hq ne] at d
        rw [show (u : Int) = (a : Int) - ((x + y - a : Nat) : Int) by omega, show (v : Int) = 2 * ((x + y - a : Nat) : Int) by omega]
        exact d
      · have us : u = x + y := by
          by_cases c : u < x + y
          · rw [Nat.mod_eq_of_lt c] at um; omega
          · omega
        have d := Re.step g (tw2_may' hp hq ne (by omega) (by omega))
        rw [tw2_deed' hp hq ne] at d
        rw [show (u : Int) = 2 * (a : Int) by omega, show (v : Int) = ((x + y - a : Nat) : Int) - (a : Int) by omega]
        exact d
  · have g := tw2_go hp hq ne hx hy R0 m fun j hj c => z ⟨j, hj, c⟩
    have hz : x * 2 ^ m % (x + y) ≠ 0 := fun c => z ⟨m, Nat.le_refl _, c⟩
    have ul : u < x + y := by
      by_cases c : u < x + y
      · exact c
      · have : u = x + y := by omega
        rw [this, Nat.mod_self] at hm
        exact absurd hm hz
    rw [Nat.mod_eq_of_lt ul] at hm
    rw [hm, show x + y - u = v by omega] at g
    exact g
end
/-- outside of the holders nobody has anything -/
theorem hold_rest {r : List Int} (nr : ∀ n ∈ r, 0 ≤ n) {t : Nat} (h : (t : Int) ∉ hold r r.length) : r.getD t 0 = 0 := by
  apply Classical.byContradiction
  intro hz
  by_cases ht : t < r.length
  · have t0 : 0 ≤ r.getD t 0 := by rw [getD_eq ht]; exact nr _ (List.getElem_mem _)
    exact h (hold_mem ht (by omega))
  · exact hz (by rw [List.getD_eq_getElem?_getD, List.getElem?_eq_none (by omega)]; rfl)
theorem come_two {r o : List Int} (nr : ∀ n ∈ r, 0 ≤ n) (no : ∀ n ∈ o, 0 ≤ n) (c : cnt r = 2) (hb : brkF r o = []) : Re r o := by
  rcases brkF_nil.mp hb with rfl | ⟨l, c1, a⟩
  · exact .refl
  rw [cnt_hold] at c
  obtain ⟨i, j, hij⟩ : ∃ i j, hold r r.length = [i, j] := by
    match hold r r.length, c with
    | [i, j], _ => exact ⟨i, j, rfl⟩
  obtain ⟨p, q, rfl, rfl, hp, hq, hne, p0, q0⟩ := hold_two hij
  have k := cl_iff.mp c1
  have z1 : ∀ j, r.getD j 0 = 0 → o.getD j 0 = 0 := hfn_pos l no k.hf
  have so := pair_sum l nr no hij z1
  have sr := pair_sum rfl nr nr hij fun _ h => h
  have hb2 : pairB r o = true := a.resolve_left (by omega)
  unfold pairB at hb2
  rw [hij] at hb2
  have op : 0 ≤ o.getD p 0 := by rw [getD_eq (l ▸ hp)]; exact no _ (List.getElem_mem _)
  have oq : 0 ≤ o.getD q 0 := by rw [getD_eq (l ▸ hq)]; exact no _ (List.getElem_mem _)
  have hs := k.sum
  obtain ⟨x, ex⟩ : ∃ x : Nat, r.getD p 0 = x := ⟨(r.getD p 0).toNat, by omega⟩
  obtain ⟨y, ey⟩ : ∃ y : Nat, r.getD q 0 = y := ⟨(r.getD q 0).toNat, by omega⟩
  obtain ⟨u, eu⟩ : ∃ u : Nat, o.getD p 0 = u := ⟨(o.getD p 0).toNat, by omega⟩
  obtain ⟨v, ev⟩ : ∃ v : Nat, o.getD q 0 = v := ⟨(o.getD q 0).toNat, by omega⟩
  have hb3 : cb2 x y u v = true := by
    have : cb2 (r.getD p 0).toNat (r.getD q 0).toNat (o.getD p 0).toNat (o.getD q 0).toNat = true := hb2
    rw [ex, ey, eu, ev] at this
    exact this
  have hpr := (cb_iff (by omega) (by omega) (by omega)).mp hb3
  have rest : ∀ t, t ≠ p → t ≠ q → r.getD t 0 = 0 := fun t tp tq => hold_rest nr (by
    rw [hij]
    simp only [List.mem_cons, List.not_mem_nil, or_false]
    omega)
  have same : ∀ w : List Int, w.length = r.length → (∀ t, t ≠ p → t ≠ q → w.getD t 0 = 0) → w = tw2 r p q (w.getD p 0) (w.getD q 0) := fun w lw hw => List.ext_getElem (by rw [tw2_len]; exact lw) fun t h1 h2 => by
    rw [← getD_eq h1, ← getD_eq h2]
    by_cases tp : t = p
    · rw [tp, tw2_p hp hne hq]
    · by_cases tq : t = q
      · rw [tq, tw2_q hq]
      · rw [hw t tp tq]
        unfold tw2
        rw [getD_set (by rw [List.length_set]; exact hq), if_neg (Ne.symm tq), getD_set hp, if_neg (Ne.symm tp), rest t tp tq]
  have R0 : Re r (tw2 r p q x y) := by
    have := same r rfl rest
    rw [ex, ey] at this
    rw [← this]
    exact .refl
  have g := pr_re hp hq hne (by omega) (by omega) R0 hpr
  have e := same o l.symm fun t tp tq => z1 t (rest t tp tq)
  rw [eu, ev] at e
  rw [e]
  exact g
theorem come_one {r o : List Int} (nr : ∀ n ∈ r, 0 ≤ n) (no : ∀ n ∈ o, 0 ≤ n) (c : cnt r ≤ 1) (hb : brkF r o = []) : r = o := by
  rcases brkF_nil.mp hb with h | ⟨l, c1, a⟩
  · exact h
  rw [cnt_hold] at c
  have k := cl_iff.mp c1
  have z1 : ∀ j, r.getD j 0 = 0 → o.getD j 0 = 0 := hfn_pos l no k.hf
  have hs := k.sum
  -- one place at most holds
  obtain ⟨p, hp⟩ : ∃ p : Nat, ∀ t, t ≠ p → r.getD t 0 = 0 := by
    match e : hold r r.length, c with
    | [], _ => exact ⟨0, fun t _ => hold_rest nr (by rw [e]; exact fun z => nomatch z)⟩
    | [i], _ =>
      obtain ⟨p, rfl, h1, h2⟩ := hold_get (ns := r) (x := i) (by rw [e]; exact List.mem_singleton.mpr rfl)
      exact ⟨p, fun t tp => hold_rest nr (by rw [e, List.mem_singleton]; omega)⟩
  have one : ∀ w : List Int, (∀ t, t ≠ p → w.getD t 0 = 0) → w.sum = w.getD p 0 := fun w hw => by
    by_cases hl : p < w.length
    · have h1 := sum_setG w p hl 0
      have : (w.set p 0).sum = 0 := by
        refine sum_zero fun n hn => ?_
        obtain ⟨t, ht, rfl⟩ := List.mem_iff_getElem.mp hn
        rw [← getD_eq ht, getD_set hl]
        split
        · rfl
        · exact hw t (by omega)
      rw [← getD_eq hl] at h1
      omega
    · rw [List.getD_eq_getElem?_getD, List.getElem?_eq_none (by omega)]
      refine sum_zero fun n hn => ?_
      obtain ⟨t, ht, rfl⟩ := List.mem_iff_getElem.mp hn
      rw [← getD_eq ht]
      exact hw t (by omega)
  have e1 := one r hp
  have e2 := one o fun t h => z1 t (hp t h)
  refine List.ext_getElem l fun t h1 h2 => ?_
  rw [← getD_eq h1, ← getD_eq h2]
  by_cases tp : t = p
  · rw [tp]; omega
  · rw [hp t tp, z1 t (hp t tp)]
/-- a word of all rows: a sum of which each row of three or more is come to -/
theorem come_all {r o : List Int} (nr : ∀ n ∈ r, 0 ≤ n) (no : ∀ n ∈ o, 0 ≤ n) (h3 : 3 ≤ cnt r → brkF r o = [] → Re r o) (hb : brkF r o = []) : Re r o := by
  by_cases c3 : 3 ≤ cnt r
  · exact h3 c3 hb
  · by_cases c2 : cnt r = 2
    · exact come_two nr no c2 hb
    · rw [come_one nr no (by omega) hb]
      exact .refl
end MG

/-! MPb: rows of three and four holders, sums 15 and 16 -/
namespace Fc
theorem c3_15 : chk 32 3 15 1000000 = true := by decide +kernel
theorem c3_16 : chk 32 3 16 1000000 = true := by decide +kernel
theorem c4_15 : chk 32 4 15 1000000 = true := by decide +kernel
theorem c4_16 : chk 32 4 16 1000000 = true := by decide +kernel
theorem full3_16 : ∀ n : Nat, 1 ≤ n → n ≤ 16 → Full 3 n := fun n h1 h2 => by
  by_cases c : n ≤ 14
  · exact full3 n h1 c
  · by_cases c : n = 15
    · rw [c]; exact chk_full (by decide) (by decide) (by decide) (by decide) c3_15
    · rw [show n = 16 by omega]; exact chk_full (by decide) (by decide) (by decide) (by decide) c3_16
theorem full4_16 : ∀ n : Nat, 1 ≤ n → n ≤ 16 → Full 4 n := fun n h1 h2 => by
  by_cases c : n ≤ 14
  · exact full4 n h1 c
  · by_cases c : n = 15
    · rw [c]; exact chk_full (by decide) (by decide) (by decide) (by decide) c4_15
    · rw [show n = 16 by omega]; exact chk_full (by decide) (by decide) (by decide) (by decide) c4_16
end Fc
namespace MG
open PySem PySem.Spec PyProof.Rows
theorem come16 {r o : List Int} (nr : ∀ n ∈ r, 0 ≤ n) (no : ∀ n ∈ o, 0 ≤ n) (l : r.length = o.length) (c4 : cnt r ≤ 4) (hs : r.sum ≤ 16) (hb : brkF r o = []) : Re r o :=
  come_all nr no (fun c3 hb => by
    have h := cnt_sum nr
    obtain ⟨n, hn⟩ : ∃ n : Nat, r.sum = n := ⟨r.sum.toNat, by omega⟩
    by_cases c : cnt r = 3
    · exact Fc.full3_16 n (by omega) (by omega) r o nr no l hn c hb
    · exact Fc.full4_16 n (by omega) (by omega) r o nr no l hn (by omega) hb) hb
/-- what is asked of rows of two holders is so of all rows -/
theorem pairQ_of {r o : List Int} (nr : ∀ n ∈ r, 0 ≤ n) (no : ∀ n ∈ o, 0 ≤ n) (hs : r.sum ≤ 100000) : PairQ r o := fun ne l c1 h3 => by
  refine ⟨?_, hs⟩
  apply Classical.byContradiction
  intro h2
  refine ne (come_one nr no (by rw [cnt_hold]; omega) (brkF_nil.mpr (.inr ⟨l, c1, .inr ?_⟩)))
  unfold pairB
  match e : hold r r.length, h2, h3 with
  | [], _, _ => rfl
  | [i], _, _ => rfl
  | [i, j], h2, _ => exact absurd rfl h2
  | i :: j :: k :: t, _, h3 => exact absurd (by show 3 ≤ t.length + 1 + 1 + 1; omega) h3
end MG

namespace K56
open PySem PySem.Spec PyProof.Rows L2 MG
abbrev sSb : Stmt := topS 49
abbrev nSb : List Str := ["row", "goal"]
theorem scSb : FnScope ["row", "goal"] ["row", "goal"] (defScope sSb) := ⟨rfl, rfl, rfl, by decide +kernel, rfl, by decide +kernel, by decide +kernel⟩
/-- met, open or lost -/
def stW (r o : List Int) : Str := if r = o then "met" else if brkF r o = [] then "open" else "lost"
section
variable {P : Program} {w : World} {K : PySem.W.Frag} {mg : Str → Option Value} {base : Heap}
def spSb : Sp := fun vs H Q _ => ∃ a b r o, vs = [.ref a, .ref b] ∧ Row H a r ∧ Row H b o ∧ r.sum ≤ 100000 ∧ ∀ H', Same H H' → Q (.str (stW r o)) H'
theorem ok_sb {f fComes : Addr} {fd fdComes : FuncData} {k : Nat} (F : Fun K "state_between" "state_between" sSb f fd)
    (FComes : Fun K "comes" "comes" sComes fComes fdComes) (bComes : Binds K fdComes ["row", "other"] []) (gComes : mg "comes" = some (.ref fComes)) (GComes : FnOk P w K mg base CX0 (k + 7) fComes fdComes ["row", "other"] spComes) :
    FnOk P w K mg base CX0 (k + 8) f fd ["row", "goal"] spSb := by
  refine F.ok scSb (fun vs H Q E h => ?_) (fun cdv A outer s H vs Q E hr h => ?_)
  · obtain ⟨a, b, r, o, rfl, _⟩ := h
    rfl
  · obtain ⟨a, b, r, o, rfl, ra, rb, hs, q⟩ := h
    have hr7 := hr
    refine ⟨_, pss_cons (ps_if (pt_cmpR (op_eqD hr.units) (pv 0) (pv 1) (nomark _)) (pss_one (ps_ret pe_str)) pss_nil)
      (pss_one (ps_ret (pe_ifExp (pt_val (pe_call GComes hr7 (by rfl) gComes FComes.kp bComes .nil pass0 (pa_cons (pv 0) (pa_cons (pv 1) pa_nil)))) pe_str pe_str))), ?_⟩
    refine ⟨_, rfl, _, rfl, _, _, .tup (SqT.of ra.1) (dpIntsG r), .tup (SqT.of rb.1) (dpIntsG o), shapedT_ints r, shapedT_ints o, _, rfl, ?_⟩
    rw [eqv_rows]
    unfold stW at q
    refine ite2 (fun e => ?_) (fun e => ?_)
    · have e' := of_decide_eq_true e
      rw [if_pos e'] at q
      exact q H (Same.refl H)
    · have e' : ¬ r = o := fun z => e (decide_eq_true z)
      rw [if_neg e'] at q
      refine ⟨_, rfl, _, rfl, a, b, r, o, rfl, ra, rb, pairQ_of (fun n hn => (ra.2.1 n hn).1) (fun n hn => (rb.2.1 n hn).1) hs, fun H1 s1 => ⟨_, rfl, ?_⟩⟩
      by_cases e2 : brkF r o = []
      · rw [if_pos e2] at q
        rw [decide_eq_true e2]
        exact q _ s1
      · rw [if_neg e2] at q
        rw [decide_eq_false e2]
        exact q _ s1
end
end K56

namespace K56
open PySem PySem.Spec PyProof.Rows L2 MG
abbrev sOs : Stmt := topS 45
abbrev sNa : Stmt := topS 46
theorem scOs : FnScope ["text", "signs", "sign"] ["text", "signs"] (defScope sOs) := ⟨rfl, rfl, rfl, by decide +kernel, rfl, by decide +kernel, by decide +kernel⟩
theorem scNa : FnScope ["thing"] ["thing"] (defScope sNa) := ⟨rfl, rfl, rfl, by decide +kernel, rfl, by decide +kernel, by decide +kernel⟩
section
variable {P : Program} {w : World} {K : PySem.W.Frag} {mg : Str → Option Value} {base : Heap}
def sgB (z y : Str) : Bool := (z.cps.toList.map fun c => decide (c ∈ y.cps.toList)).all id
def spOs : Sp := fun vs H Q _ => ∃ (z y : Str), vs = [.str z, .str y] ∧ z.length ≤ 1000 ∧ ∀ H', Same H H' → Q (.bl (sgB z y)) H'
theorem ok_os {f : Addr} {fd : FuncData} {k : Nat} (F : Fun K "is_of_signs" "is_of_signs" sOs f fd) (m_all : mg "all" = none) : FnOk P w K mg base CX0 (k + 1) f fd ["text", "signs"] spOs := by
  refine F.ok scOs (fun vs H Q E h => ?_) (fun cdv A outer s H vs Q E hr h => ?_)
  · obtain ⟨z, y, rfl, _⟩ := h
    rfl
  · obtain ⟨z, y, rfl, lz, q⟩ := h
    refine ⟨_, pss_one (ps_ret (pe_callB (cr_all rfl) (by rfl) m_all (by decide +kernel) (pa_cons (pe_lc (own := [("sign", 2)]) (g := gName 2) (tt := tYes) rfl scOs.nd (pi_str (pv 0)) (blkOk_by (N := ["text", "signs", "sign"]) (sc := defScope sOs) (by decide +kernel)) (fun _ _ _ _ _ => pg_name (i := 2) scOs.nd rfl (Or.inl rfl)) (fun _ _ _ _ _ => pts_nil) (fun _ _ _ _ _ => pe_cmpR op_inS (pv 2) (pv 1) (by rfl))) pa_nil))), ?_⟩
    refine ⟨_, rfl, z, rfl, fun D nD => ?_⟩
    refine lc_it (walk_str (z := z)) (fun m G => Same H G ∧ G D = some (.lst (((z.cps.toList.take m).map fun c => decide (c ∈ y.cps.toList)).map V.bl))) ⟨same_upd nD, upd_same⟩ ?_ ?_ ?_
    · intro m G _ _
      trivial
    · rintro m u G G' hm ⟨sm, hD⟩ ⟨rfl, c, hc, rfl⟩
      refine ⟨rfl, _, rfl, _, rfl, c, y, rfl, rfl, _, hD, by rw [List.length_map, List.length_map, List.length_take, sizeLine_eq]; have : z.cps.size ≤ 1000 := lz; omega, fun b o e => by rw [upd_ne (ne_of_none e nD)]; exact sm b o e, ?_⟩
      rw [upd_same, List.take_add_one, Array.getElem?_toList, hc, List.map_append, List.map_append]
      rfl
    rintro G ⟨sm, hD⟩
    rw [show z.cps.size = z.cps.toList.length from Array.length_toList.symm, List.take_length] at hD
    exact ⟨D, _, rfl, SqL.of hD, q G sm⟩
/-- a name: one to eight small letters -/
def letS : Str := "abcdefghijklmnopqrstuvwxyz"
def nmB (z : Str) : Bool := decide (1 ≤ z.length ∧ z.length ≤ 8) && sgB z letS
def spNa : Sp := fun vs H Q _ => ∃ (z : Str), vs = [.str z] ∧ z.length ≤ 1000 ∧ ∀ H', Same H H' → Q (.bl (nmB z)) H'
theorem ok_na {f fOs : Addr} {fd fdOs : FuncData} {k : Nat} {tM tL : Tok} (F : Fun K "is_name" "is_name" sNa f fd) (FOs : Fun K "is_of_signs" "is_of_signs" sOs fOs fdOs) (bOs : Binds K fdOs ["text", "signs"] []) (gOs : mg "is_of_signs" = some (.ref fOs))
    (gM : mg "MOST_LETTERS" = some (.int 8 tM)) (gL : mg "SMALL_LETTERS" = some (.str letS tL)) (m_all : mg "all" = none) (m_len : mg "len" = none) (m_isinstance : mg "isinstance" = none) (m_str : mg "str" = none) : FnOk P w K mg base CX0 (k + 2) f fd ["thing"] spNa := by
  have GOs : FnOk P w K mg base CX0 (k + 1) fOs fdOs ["text", "signs"] spOs := ok_os FOs m_all
  refine F.ok scNa (fun vs H Q E h => ?_) (fun cdv A outer s H vs Q E hr h => ?_)
  · obtain ⟨z, rfl, _⟩ := h
    rfl
  · obtain ⟨z, rfl, lz, q⟩ := h
    have hr1 := hr
    refine ⟨_, pss_one (ps_ret (pe_and (pe_callB call_isi (by rfl) m_isinstance (by decide +kernel) (pa_cons (pv 0) (pa_cons (pe_bltn (v := .ty "str") (by rfl) m_str (by decide +kernel) rfl) pa_nil))) (pe_and (pe_chain op_le op_le pe_int (pe_callB call_len_str (by rfl) m_len PySem.boot_len (pa_cons (pv 0) pa_nil)) (pe_glob (v := .int 8) (by rfl) gM ⟨_, rfl⟩)) (pe_one (pe_call GOs hr1 (by rfl) gOs FOs.kp bOs .nil pass0 (pa_cons (pv 0) (pa_cons (pe_glob (v := .str letS) (by rfl) gL ⟨_, rfl⟩) pa_nil))))))), ?_⟩
    refine ⟨_, rfl, .str z, _, _, _, true, rfl, .ty "str", .base (.str z), by kernel_rfl, ?_⟩
    refine ⟨_, rfl, iteT ⟨.str z, rfl, z, rfl, by rw [sizeLine_eq]; omega, 1, (z.length : Int), rfl, rfl, _, rfl, ?_⟩⟩
    have no : ∀ b : Bool, (b = false ∨ sgB z letS = false) → b = decide (1 ≤ z.length ∧ z.length ≤ 8) → Q (.bl false) H := fun b h1 h2 => by
      have := q H (Same.refl H)
      unfold nmB at this
      rw [← h2] at this
      rcases h1 with h | h
      · rw [h] at this; exact this
      · rw [h, Bool.and_false] at this; exact this
    refine ite2 (fun h1 => ?_) (fun h1 => ⟨_, rfl, iteF (no false (.inl rfl) (decide_eq_false (fun z => h1 (decide_eq_true (by omega)))).symm)⟩)
    have h1' := of_decide_eq_true h1
    refine ⟨(z.length : Int), 8, rfl, rfl, _, rfl, ite2 (fun h2 => ?_) (fun h2 => no false (.inl rfl) (decide_eq_false (fun z => h2 (decide_eq_true (by omega)))).symm)⟩
    have h2' := of_decide_eq_true h2
    refine ⟨_, rfl, z, letS, rfl, lz, fun H1 s1 => ?_⟩
    have := q H1 s1
    unfold nmB at this
    rw [decide_eq_true (show 1 ≤ z.length ∧ z.length ≤ 8 from ⟨by omega, by omega⟩), Bool.true_and] at this
    exact this
end
end K56

namespace K56
open PySem PySem.Spec PyProof.Rows L2 MG
abbrev sRow : Stmt := topS 20
theorem scRow : FnScope ["thing", "amount"] ["thing"] (defScope sRow) := ⟨rfl, rfl, rfl, by decide +kernel, rfl, by decide +kernel, by decide +kernel⟩
def nnD : PyData → Bool
  | .int i => decide (i ≥ 0)
  | _ => false
def sumD : List PyData → Int
  | [] => 0
  | .int i :: r => i + sumD r
  | _ :: r => sumD r
def rowL (ds : List PyData) : Bool := (decide (1 ≤ ds.length) && decide (ds.length ≤ 12)) && (ds.all nnD && (decide (0 < sumD ds) && decide (sumD ds < 10 ^ 30)))
def rowD : PyData → Bool
  | .tuple ds => rowL ds
  | _ => false
theorem DdAll_get {H : Hp} : ∀ {vs : List V} {ds : List PyData}, DdAll H vs ds → ∀ {i : Nat} {x : V}, vs[i]? = some x → ∃ d, ds[i]? = some d ∧ Dd H x d
  | _, _, .nil, _, _, h => by simp at h
  | _, _, .cons a b, 0, _, h => ⟨_, rfl, by cases h; exact a⟩
  | _, _, .cons a b, i + 1, _, h => DdAll_get b h
theorem ints_of {H : Hp} : ∀ {vs : List V} {ds : List PyData}, DdAll H vs ds → ds.all nnD = true →
    ∃ ns : List Int, vs = ns.map V.int ∧ ds = ns.map PyData.int ∧ (∀ n ∈ ns, 0 ≤ n) ∧ sumD ds = ns.sum
  | _, _, .nil, _ => ⟨[], rfl, rfl, fun _ h => absurd h List.not_mem_nil, rfl⟩
  | _, _, .cons a b, h => by
    rw [List.all_cons, Bool.and_eq_true] at h
    obtain ⟨ns, e1, e2, e3, e4⟩ := ints_of b h.2
    cases a with
    | int i =>
      have hi : 0 ≤ i := of_decide_eq_true h.1
      refine ⟨i :: ns, by rw [List.map_cons, e1], by rw [List.map_cons, e2], ?_, ?_⟩
      · intro n hn
        rcases List.mem_cons.mp hn with rfl | hn
        · exact hi
        · exact e3 n hn
      · show i + sumD _ = _
        rw [e4, List.sum_cons]
    | _ => exact absurd h.1 Bool.false_ne_true

section
variable {P : Program} {w : World} {K : PySem.W.Frag} {mg : Str → Option Value} {base : Heap}
def spRow : Sp := fun vs H Q _ => ∃ x d, vs = [x] ∧ Dd H x d ∧ ∀ H', Same H H' → Q (.bl (rowD d)) H'
theorem ok_row {f fW : Addr} {fd fdW : FuncData} {k : Nat} {t1 t2 : Tok} (F : Fun K "is_row" "is_row" sRow f fd) (FW : Fun K "is_whole" "is_whole" sWhole fW fdW) (bW : Binds K fdW ["thing"] [])
    (gW : mg "is_whole" = some (.ref fW)) (gM : mg "MOST_PLACES" = some (.int 12 t1)) (gA : mg "ABOVE_THIRTY_FIGURES" = some (.int (10 ^ 30) t2))
    (mi : mg "isinstance" = none) (mI : mg "int" = none) (mB : mg "bool" = none) (mT : mg "tuple" = none) (mA : mg "all" = none) (mS : mg "sum" = none) (ml : mg "len" = none) :
    FnOk P w K mg base CX0 (k + 2) f fd ["thing"] spRow := by
  have GW : FnOk P w K mg base CX0 (k + 1) fW fdW ["thing"] spWhole := ok_whole FW mi mI mB
  refine F.ok scRow (fun vs H Q E h => ?_) (fun cdv A outer s H vs Q E hr h => ?_)
  · obtain ⟨x, d, rfl, _⟩ := h
    rfl
  · obtain ⟨x, d, rfl, hd, q⟩ := h
    refine ⟨_, pss_cons (ps_if (PW.pt (pw_or
        (pt_not (pt_val (pe_callB call_isi (by rfl) mi (by decide +kernel) (pa_cons (pv 0) (pa_cons (pe_bltn (v := .ty "tuple") (by rfl) mT (by decide +kernel) rfl) pa_nil)))))
        (pw_or1 (pt_not (pt_chain op_le op_le pe_int (pe_callB call_len_seq (by rfl) ml PySem.boot_len (pa_cons (pv 0) pa_nil)) (pe_glob (v := .int 12) (by rfl) gM ⟨_, rfl⟩))))))
        (pss_one (ps_ret pe_bl)) pss_nil)
      (pss_cons (ps_if (pt_not (pt_val (pe_callB (cr_all rfl) (by rfl) mA (by decide +kernel) (pa_cons
          (pe_lc (own := [("amount", 1)]) (g := gName 1) (tt := tYes) rfl scRow.nd (pi_tup (pv 0)) (blkOk_by (N := ["thing", "amount"]) (sc := defScope sRow) (by decide +kernel))
            (fun _ _ _ _ _ => pg_name (i := 1) scRow.nd rfl (Or.inl rfl)) (fun _ _ _ _ _ => pts_nil)
            (fun _ _ _ _ _ => pe_and (pe_call GW hr (by rfl) gW FW.kp bW .nil pass0 (pa_cons (pv 1) pa_nil)) (pe_one (pe_cmp (pc_ge (pv 1) pe_int) rfl))))
          pa_nil))))
        (pss_one (ps_ret pe_bl)) pss_nil)
      (pss_one (ps_ret (pe_chain op_lt op_lt pe_int (pe_callB (sumT rfl) (by rfl) mS (by decide +kernel) (pa_cons (pv 0) pa_nil)) (pe_glob (v := .int (10 ^ 30)) (by rfl) gA ⟨_, rfl⟩))))), ?_⟩
    refine ⟨x, rfl, x, _, _, _, _, rfl, .ty "tuple", hd.ty, kit_tuple _ d, isTupD d, rfl, ?_⟩
    cases ht : isTupD d with
    | false =>
      have e0 : rowD d = false := by cases d <;> first | rfl | cases ht
      refine iteT (iteT ?_)
      have := q H (Same.refl H)
      rw [e0] at this
      exact this
    | true =>
      cases hd with
      | @tup a xs ds e r =>
        refine iteF ?_
        have hS : SqT K H a xs := SqT.of e
        have hl := r.length
        refine ⟨.ref a, rfl, a, xs, rfl, .inr hS, ?_⟩
        have fail : rowL ds = false → Q (.bl false) H := fun z => by
          have := q H (Same.refl H)
          rw [show rowD (.tuple ds) = false from z] at this
          exact this
        refine ⟨1, (xs.length : Int), rfl, rfl, _, rfl, ite2 (fun h1 => ?_) (fun h1 => ?_)⟩
        rotate_left
        · refine ⟨false, rfl, iteT (fail ?_)⟩
          have n1 : ¬ 1 ≤ ds.length := fun z => h1 (decide_eq_true (by rw [hl] at z; omega))
          unfold rowL
          rw [decide_eq_false n1]
          rfl
        refine ⟨(xs.length : Int), 12, rfl, rfl, decide ((xs.length : Int) ≤ 12), rfl, ?_⟩
        cases h2 : decide ((xs.length : Int) ≤ 12) with
        | false =>
          refine iteT (fail ?_)
          have n2 : ¬ ds.length ≤ 12 := fun z => of_decide_eq_false h2 (by rw [hl] at z; omega)
          unfold rowL
          rw [decide_eq_false n2, Bool.and_false]
          rfl
        | true =>
          refine iteF ?_
          have len1 : 1 ≤ ds.length := by have := of_decide_eq_true h1; omega
          have len2 : ds.length ≤ 12 := by have := of_decide_eq_true h2; omega
          have rw1 : rowL ds = (ds.all nnD && (decide (0 < sumD ds) && decide (sumD ds < 10 ^ 30))) := by
            unfold rowL
            rw [decide_eq_true len1, decide_eq_true len2]
            rfl
          refine ⟨.ref a, rfl, a, rfl, ⟨_, hS⟩, fun D nD => ?_⟩
          have sD : Same H (upd H D (.lst [])) := same_upd nD
          refine lc_tup (K := K) (a := a) (xs := xs) (fun i H' => Same H H' ∧ H' D = some (.lst ((ds.take i).map fun d => V.bl (nnD d)))) ⟨sD, upd_same⟩ ?_ ?_ ?_
          · intro i H' _ h
            exact SqT.of (h.1 _ _ e)
          · rintro i y H' hy ⟨sm, hD⟩
            obtain ⟨dy, hdy, hd'⟩ := DdAll_get r hy
            have step : ∀ b : Bool, b = nnD dy → ∃ acc, H' D = some (.lst acc) ∧ acc.length < sizeLine ∧ Same H (upd H' D (.lst (acc ++ [V.bl b]))) ∧
                upd H' D (.lst (acc ++ [V.bl b])) D = some (.lst ((ds.take (i + 1)).map fun d => V.bl (nnD d))) := by
              rintro b rfl
              refine ⟨_, hD, ?_, ?_, ?_⟩
              · rw [List.length_map, List.length_take]
                exact small1000 (by omega)
              · intro c o hc
                rw [upd_ne (ne_of_none hc nD)]
                exact sm c o hc
              · rw [upd_same, List.take_add_one, hdy, List.map_append]
                rfl
            refine ⟨rfl, y, rfl, y, dy, rfl, hd'.same sm, wholeD dy, rfl, ?_⟩
            cases hw : wholeD dy with
            | false => exact iteF (step false (by cases dy <;> first | rfl | cases hw))
            | true =>
              cases hd' with
              | int n => exact iteT ⟨_, rfl, n, 0, rfl, rfl, step _ rfl⟩
              | _ => cases hw
          · rintro H' ⟨sm, hD⟩
            rw [← hl, List.take_length] at hD
            have hbs : SqL K H' D ((ds.map nnD).map V.bl) := .inl (.inl (by rw [List.map_map]; exact hD))
            refine ⟨D, ds.map nnD, rfl, hbs, _, rfl, ?_⟩
            have eall : (ds.map nnD).all id = ds.all nnD := by rw [List.all_map]; rfl
            rw [eall]
            cases ha : ds.all nnD with
            | false =>
              refine iteT ?_
              have := q H' sm
              rw [show rowD (.tuple ds) = false by show rowL ds = false; rw [rw1, ha]; rfl] at this
              exact this
            | true =>
              refine iteF ?_
              obtain ⟨ns, rfl, ens, _, esum⟩ := ints_of r ha
              have fin : ∀ b : Bool, b = (decide (0 < sumD ds) && decide (sumD ds < 10 ^ 30)) → Q (.bl b) H' := by
                rintro b rfl
                have := q H' sm
                rw [show rowD (.tuple ds) = (decide (0 < sumD ds) && decide (sumD ds < 10 ^ 30)) by show rowL ds = _; rw [rw1, ha]; rfl] at this
                exact this
              refine ⟨.ref a, rfl, a, ns, rfl, SqT.of (sm _ _ e), 0, ns.sum, rfl, rfl, decide (0 < ns.sum), rfl, ?_⟩
              rw [← esum]
              cases h3 : decide (0 < sumD ds) with
              | false => exact iteF (fin _ (by rw [h3]; rfl))
              | true => exact iteT ⟨sumD ds, 10 ^ 30, rfl, rfl, fin _ (by rw [h3]; rfl)⟩
      | _ => cases ht
def spSplitS : Sp := fun vs H Q _ => ∃ (b : Addr) (total many : Int) (n : Nat), vs = [.ref b, .int total, .int many] ∧ Box H b n ∧ n ≤ 900000 ∧ 1 ≤ many ∧ many ≤ 20 ∧ many ≤ total ∧ total ≤ 10 ^ 39 ∧
  ∀ p H' (ns : List Int), H p = none → (ns.length : Int) = many → (∀ x ∈ ns, 1 ≤ x ∧ x ≤ total) → ns.sum = total → Box H' b (n + 20) → SX b H H' → H' p = some (.lst (ns.map V.int)) → Q (.ref p) H'
theorem ok_splitS {f fT : Addr} {fd fdT : FuncData} {k : Nat} (F : Fun K "_law_split" "_law_split" sSplit f fd)
    (FT : Fun K "_law_take" "_law_take" sTake fT fdT) (bT : Binds K fdT ["_law_box_here", "_law_many"] []) (gT : mg "_law_take" = some (.ref fT)) (mR : mg "range" = none) :
    FnOk P w K mg base CX0 (k + 2) f fd ["_law_box_here", "_law_total", "_law_many"] spSplitS := by
  have GT : FnOk P w K mg base CX0 (k + 1) fT fdT ["_law_box_here", "_law_many"] spTake := ok_take FT
  refine F.ok scSplit (fun vs H Q E h => ?_) (fun cdv A outer s H vs Q E hr h => ?_)
  · obtain ⟨b, total, many, n, rfl, _⟩ := h
    rfl
  · obtain ⟨b, total, many, n, rfl, hB, hn, m1, m2, m3, m4, q⟩ := h
    refine ⟨_, pss_cons (ps_par (i := 3) (j := 4) rfl scSplit.nd rfl rfl (by decide) rfl rfl (pa_cons (pe_op op_sub (pv 1) (pv 2)) (pa_cons (pe_lst pa_nil) pa_nil)) (by rfl))
      (pss_cons (ps_for PassesOwn.never rfl (pi_range1 rfl mR (pa_cons (pe_op op_sub (pv 2) pe_int) pa_nil)) (pg_name (i := 5) scSplit.nd rfl (.inl rfl))
        (pss_cons (ps_set (i := 6) scSplit.nd rfl (.inl rfl) (pe_call GT hr (by rfl) gT FT.kp bT .nil pass0 (pa_cons (pv 0) (pa_cons (pe_op op_add (pv 3) pe_int) pa_nil))))
        (pss_cons (ps_set (i := 3) scSplit.nd rfl (.inl rfl) (pe_op op_sub (pv 3) (pv 6)))
        (pss_one (ps_expr (pe_bm PySem.F.plainAttrs_list PySem.F.slot_list_append PySem.F.type_list_append mt_append (pv 4) (pa_cons (pe_op op_add pe_int (pv 6)) pa_nil)))))))
      (pss_one (ps_ret (pe_op op_cat (pv 4) (pe_lst (pa_cons (pe_op op_add pe_int (pv 3)) pa_nil)))))), ?_⟩
    refine ⟨_, rfl, _, rfl, total, many, rfl, rfl, by show 0 ≤ sizeLine; decide, fun fo nfo => ⟨_, _, rfl, ?_⟩⟩
    obtain ⟨bo, bz⟩ := hB.get
    have nbf : b ≠ fo := ne_of_none bz nfo
    refine ⟨_, rfl, many, 1, rfl, rfl, many - 1, rfl, by omega, by omega, ?_⟩
    refine for_range (lo := 0) (n := (many - 1).toNat) (fun i σ H' => ∃ y5 y6, ∃ left : Int, ∃ ns : List Int, σ = [some (.ref b), some (.int total), some (.int many), some (.int left), some (.ref fo), y5, y6] ∧ 0 ≤ left ∧ left ≤ total - many ∧ ns.length = i ∧ (∀ x ∈ ns, 1 ≤ x ∧ x ≤ total) ∧ ns.sum + left = total - many + i ∧ SX b H H' ∧ Box H' b (n + i) ∧ H' fo = some (.lst (ns.map V.int))) ?_ ?_ ?_
    · exact ⟨none, none, total - many, [], rfl, by omega, by omega, rfl, fun x hx => absurd hx List.not_mem_nil, by rw [List.sum_nil]; omega, .of_same (same_upd nfo), hB.set nbf, upd_same⟩
    · rintro i σ H' hi ⟨y5, y6, left, ns, rfl, l0, l1, hl, hx, hsm, x', hB', ef⟩
      refine ⟨_, rfl, _, rfl, left, 1, rfl, rfl, b, left + 1, n + i, rfl, hB', by omega, by omega, by omega, fun r H'' r0 r1 hB'' k'' => ?_⟩
      refine ⟨_, rfl, _, rfl, left, r, rfl, rfl, ?_⟩
      refine ⟨_, rfl, .inl ⟨rfl, _, SqL.of (by rw [k'' fo nbf.symm]; exact ef)⟩, _, rfl, 1, r, rfl, rfl, fo, _, _, rfl, rfl, (by rw [k'' fo nbf.symm]; exact ef), ?_, ?_⟩
      · rw [List.length_map, hl]
        exact small1000 (by omega)
      · refine ⟨_, _, left - r, ns ++ [1 + r], rfl, by omega, by omega, by rw [List.length_append, hl]; rfl, ?_, by rw [List.sum_append, List.sum_singleton]; omega, ((x'.trans (.of_eq k'')).set nfo), hB''.set nbf, ?_⟩
        · intro y hy
          rcases List.mem_append.mp hy with hy | hy
          · exact hx y hy
          · rw [List.mem_singleton.mp hy]; omega
        · rw [upd_same, List.map_append]; rfl
    · rintro σ H' ⟨y5, y6, left, ns, rfl, l0, l1, hl, hx, hsm, x', hB', ef⟩
      refine ⟨_, rfl, _, rfl, 1, left, rfl, rfl, by show 1 ≤ sizeLine; decide, fun l2 n2 => ?_⟩
      refine ⟨fo, l2, _, _, rfl, rfl, same_upd n2 _ _ ef, upd_same, by rw [List.length_map]; show ns.length + 1 ≤ sizeLine; rw [sizeLine_eq]; omega, fun p np => ?_⟩
      have x2 : SX b H (upd H' l2 (.lst [.int (1 + left)])) := x'.new n2
      have hB2 : Box (upd H' l2 (.lst [.int (1 + left)])) b (n + (many - 1).toNat) := hB'.new n2
      refine q p _ (ns ++ [1 + left]) (x2.free hB2 np) (by rw [List.length_append, hl]; show ((_ + 1 : Nat) : Int) = _; omega) ?_ (by rw [List.sum_append, List.sum_singleton]; omega) ((hB2.new np).le (by omega)) (x2.new np) ?_
      · intro y hy
        rcases List.mem_append.mp hy with hy | hy
        · exact hx y hy
        · rw [List.mem_singleton.mp hy]; omega
      · rw [upd_same, List.map_append]; rfl


end
end K56

/-! MG: an exception caught under a name, and kept by another one behind the suite -/
namespace MG
open PySem PySem.Spec PyProof.Rows L2

/-- an exception of the class cls, without attributes, kept at a -/
def ExI (cls : Value) (a : Addr) : HO := .ext fun h => ∃ (oe : Obj) (vs : Array Value), h.get? a = some oe ∧ Zc cls none oe ∧ oe.data = .fields vs

section
variable {X : Cx} {pins : List (Addr × Obj)} {σ : L2.St} {H : Hp} {s : Shared}
/-- an object that came up behind the entry, and is nobody's, is known from now on -/
theorem known {a : Addr} {o : HO} {oe : Obj} {vs : Array Value} (I : Inv X pins σ H s) (at_ : s.heap.get? a = some oe) (record : oe.data = .fields vs) (off : H a = none)
    (late : X.s_0.heap.get? a = none) (nL : a ≠ X.env.locals) (np : ∀ p ∈ X.pn ++ pins, p.1 ≠ a) (new : ObjOk X.prog X.w (upd H a o) s.heap a o) : Inv X pins σ (upd H a o) s := by
  have elder : ∀ {b : Addr} {u : Obj}, X.s_0.heap.get? b = some u → upd H a o b = H b := fun {b u} e => upd_ne fun z => by
    rw [z, late] at e
    cases e
  have other : ∀ {b : Addr} {u : HO}, H b = some u → upd H a o b = some u := fun {b u} e => (upd_ne (ne_of_none e off)).trans e
  have notCell : ∀ {y : Str} {c : Addr}, X.env.cells.lookup y = some c → c ≠ a := fun {y c} e z => by
    obtain ⟨v, ob, ho, hd⟩ := I.cell y c e
    rw [z, at_] at ho
    rw [← Option.some.inj ho, record] at hd
    cases hd
  refine { I with
    base := ⟨I.base.keep, I.base.slot, fun b u e n x => (elder e).trans (I.base.free b u e n x), I.base.there, fun b xs q => other (I.base.tups b xs q), fun b u w q => other (I.base.frzs b u w q), fun b ps q => ?_⟩
    free := (upd_ne (Ne.symm nL)).trans I.free
    freeC := fun y c e => (upd_ne (notCell e)).trans (I.freeC y c e)
    pin := fun p hp => ?_
    hok := fun b u e => ?_ }
  · obtain ⟨more, q'⟩ := I.base.tbls b ps q
    exact ⟨more, other q'⟩
  · obtain ⟨p1, p2, p3⟩ := I.pin p hp
    exact ⟨p1, (upd_ne (np p hp)).trans p2, p3⟩
  · by_cases hb : b = a
    · subst hb
      rw [upd_same] at e
      rw [← Option.some.inj e]
      exact new
    · rw [upd_ne hb] at e
      exact (I.hok b u e).stay (fun c v _ q => q) (fun c q => other q) fun c xs q => other q

/-- an exception that the body lets out, looked at from the try: new, nobody's, and once it is on the ground the state is one of ours -/
theorem grounded {W : WX} {xe : Value → Shared → Prop} {u : Value} {s' : Shared} (ok : X.Ok) (hs : X.stack = X.env :: X.outer) (hf : X.env.frame = some X.env.locals) (hex : X.ex = [])
    (air : XE (X.tr (X.pn ++ pins) xe) W u s') :
    ∃ (a : Addr) (B : Heap) (cls : Value) (d : Option Addr) (σ' : L2.St) (H' : Hp), u = .ref a ∧ W cls d σ' H' ∧ H' a = none ∧ X.s_0.heap.get? a = none ∧ a ≠ X.env.locals ∧ a ∉ X.fs ∧ (∀ p ∈ X.pn ++ pins, p.1 ≠ a) ∧
      Sky B (X.env :: X.outer) a (Zc cls d) X.env.locals s'.heap ∧
      ∀ g, HandSPX.FlyingZ B (X.env :: X.outer) a (Zc cls d) g → s'.heap.UpToSlots g → Inv X pins σ' H' { s' with heap := g } := by
  obtain ⟨a, B, sI, pins', σ', H', cls, d, rfl, J', nb, up, sky, na, os, ag, w⟩ := air
  have sky1 : Sky B (X.env :: X.outer) a (Zc cls d) X.env.locals s'.heap := by rw [← hs]; exact sky
  have J : Inv X pins σ' H' sI := J'.ofTry ok
  have facts : B.get? a = none ∧ s'.heap.FunFrames B (X.env :: X.outer) ∧ ∃ oe vs, s'.heap.get? a = some oe ∧ oe.data = .fields vs := by
    rcases sky1 with ⟨_, n, ff, oe, vs, e, _, dd, _⟩ | ⟨_, n, ff, oe, vs, _, _, _, e, _, dd, _⟩ | ⟨_, n, ff, oe, vs, _, _, _, e, _, dd, _⟩ <;> exact ⟨n, ff, oe, vs, e, dd⟩
  obtain ⟨hB, ff, oe, vs, e, dd⟩ := facts
  have offFrames : a ∉ frs (X.env :: X.outer) := fun hm => by
    obtain ⟨_, o, eo, nf⟩ := ff.mem hm
    rw [e] at eo
    exact nf vs (by rw [← Option.some.inj eo]; exact dd)
  have notYet : sI.heap.get? a = none := by
    cases q : sI.heap.get? a with
    | none => rfl
    | some o =>
      have z := nb a o q (by rw [show (X.tr (X.pn ++ pins) xe).stack = X.env :: X.outer from hs]; exact offFrames)
      rw [hB] at z
      cases z
  refine ⟨a, B, cls, d, σ', H', rfl, w, na, ?_, fun z => offFrames ?_, fun hm => offFrames ?_, fun p hp z => ?_, sky1, fun g fl up' => J.landed nb fl.1 (up.trans up') os ag⟩
  · cases q : X.s_0.heap.get? a with
    | none => rfl
    | some o =>
      obtain ⟨o', q'⟩ := J.base.there a o q (by rw [hex]; exact List.not_mem_nil)
      rw [notYet] at q'
      cases q'
  · exact List.mem_filterMap.mpr ⟨X.env, List.mem_cons_self, by rw [hf, z]⟩
  · obtain ⟨v, hv, q⟩ := List.mem_filterMap.mp hm
    exact List.mem_filterMap.mpr ⟨v, List.mem_cons_of_mem _ hv, q⟩
  · have q := (J.pin p hp).1
    rw [z, notYet] at q
    cases q
end

/-- what is wished of an exception of the body, where the suite keeps it: it is of the clause's class; behind the suite it is known -/
def wKeep (K : PySem.W.Frag) (c : Value) (i : Nat) (ts : Addr → Value → TS) (D : Ends) : WX := fun cls d σ H =>
  d = none ∧ PySem.W.exmOne K cls c = some true ∧ ∀ a, H a = none →
    ts a cls { nx := fun σ' H' => H' a = none → D.nx (σ'.set i none) (upd H' a (ExI cls a)), rt := fun _ _ => False, bk := fun _ _ => False, ct := fun _ _ => False } (σ.set i (some (.ref a))) H

section
variable {X : Cx} {x n : Str} {c : Value} {i : Nat} {body suite : List Stmt} {b₀ : Stmt} {np pos pos' : Pos} {tb : WX → TS} {ts : Addr → Value → TS}
/-- try: body, except x as n: suite, where the suite keeps what it caught -/
theorem ps_try_keep (hs : X.stack = X.env :: X.outer) (hf : X.env.frame = some X.env.locals) (hex : X.ex = []) (hN : X.N.Nodup) (hi : X.N[i]? = some n) (hln : X.env.kindOf n = some .local) (hc : Names X x c)
    (hb : ∀ (W : WX) (pn : List (Addr × Obj)) (xe : Value → Shared → Prop), Takes (X.tr pn xe) W → PassesOwn (model X.prog X.w) X.A X.env xe → PSs (X.tr pn xe) body (tb W))
    (hsu : ∀ (a : Addr) (oe : Obj) (cls : Value) (pn : List (Addr × Obj)), Zc cls none oe → (∃ vs, oe.data = .fields vs) → PSs (X.suite a ((a, oe) :: pn)) (b₀ :: suite) (ts a cls)) :
    PS X (.Try body [.ExceptHandler (some (.Name x np)) (some n) (b₀ :: suite) pos'] [] [] pos) (fun D σ H => tb (wKeep X.K c i ts D) D σ H) := by
  refine ⟨fun pins s σ H D I h => wpAny_Try_except ?_⟩
  have ok := I.ok
  have frames : X.A.frames = some (X.env :: X.outer) := ok.frames.trans (by rw [hs])
  refine wpAny_mono ((hb (wKeep X.K c i ts D) (X.pn ++ pins) _ (fun u s' air => ?_) PassesOwn.looking).run [] s σ H D (I.toTry _) h) (fun f s1 out => ?_) fun _ _ z => z
  rotate_left
  · have same : SP X pins D f s1 := by
      cases f with
      | ret u => exact let ⟨v, σ', H', J, q⟩ := out; ⟨v, σ', H', J.ofTry ok, q⟩
      | next => exact let ⟨σ', H', J, q⟩ := out; ⟨σ', H', J.ofTry ok, q⟩
      | brk => exact let ⟨σ', H', J, q⟩ := out; ⟨σ', H', J.ofTry ok, q⟩
      | cont => exact let ⟨σ', H', J, q⟩ := out; ⟨σ', H', J.ofTry ok, q⟩
    cases f with
    | next => exact wpAny_execs_nil same
    | ret u => exact same
    | brk => exact same
    | cont => exact same
  · obtain ⟨a, B, cls, d, σ', H', rfl, ⟨rfl, matches_, go⟩, na, late, nL, nF, np', sky, ours⟩ := grounded ok hs hf hex air
    refine Sky.land Zc.steady frames hf sky fun g fl up => ?_
    have J := ours g fl up
    obtain ⟨o1, vs1, e1, z1, d1⟩ := fl.there
    have J1 := J.suite e1 d1 na nL nF
    refine wpAny_handleBy_cons (codeAny_handlers_test ?_) (fun z => nomatch z)
    have kind : PySem.W.Looks (model X.prog X.w) g (typeOf (.ref a)) cls := fun _ _ _ _ k q => wpAny_typeOf_ref (k _ _ e1) (by rw [z1.1]; exact q)
    have named : ∀ {Q E : Value → Shared → Prop}, Q c { s' with heap := g } → wpAny (model X.prog X.w) (X.A.mark (some (.ref a))) (eval (.Name x np) X.env) Q E { s' with heap := g } := by
      intro Q E q
      obtain ⟨hg, hdbg, hm | ⟨hm, hv, hnn⟩⟩ := hc
      · exact ld_glob (X := X.suite a ((a, o1) :: (X.pn ++ pins))) J1 hg hm q hdbg
      · exact ld_blt (X := X.suite a ((a, o1) :: (X.pn ++ pins))) J1 hg hm hv q hnn hdbg
    refine named ((PySem.W.exm_one J.kIn kind matches_).here (codeAny_handlers_suite_as ?_))
    refine HandSPX.lands_againZ fl fun g2 fl2 up2 => ?_
    obtain ⟨o2, vs2, e2, z2, d2⟩ := fl2.there
    have J2 := (ours g2 fl2 (up.trans up2)).suite e2 d2 na nL nF
    refine store_ok (X := X.suite a ((a, o2) :: (X.pn ++ pins))) (v := .ref a) J2 hN hi (.inl hln) rfl (fun s3 J3 => ?_) (.inr hln)
    refine wpAny_mono ((hsu a o2 cls (X.pn ++ pins) z2 ⟨_, d2⟩).run [] s3 _ H' _ J3 (go a na)) (fun f s4 out => ?_) fun _ _ z => False.elim z
    cases f with
    | ret u => exact let ⟨_, _, _, _, _, z⟩ := out; z.elim
    | brk => exact let ⟨_, _, _, z⟩ := out; z.elim
    | cont => exact let ⟨_, _, _, z⟩ := out; z.elim
    | next =>
      obtain ⟨σ4, H4, J4, want⟩ := out
      obtain ⟨e4, n4, _⟩ := J4.pin (a, o2) (List.mem_append_left _ List.mem_cons_self)
      have J5 : Inv X pins σ4 H4 s4 := J4.unsuite ok
      have J6 := known (o := ExI cls a) J5 e4 d2 n4 late nL np' ⟨⟨o2, vs2, e4, z2, d2⟩, ⟨o2, e4⟩, fun _ _ ⟨u, us, q, r⟩ k => ⟨u, us, k u q, r⟩⟩
      exact gone_ok J6 hN hi hln fun s7 J7 => ⟨_, _, J7, want n4⟩
end
end MG

/-! MG: the end of a law whose defs make lambdas: the tables of code objects are known from the start on. -/
namespace MG
open PySem PySem.Spec PyProof.Rows L2 LamX
abbrev tabO : Obj := { cls := .none, data := .fields #[] }
/-- known at the start: the tables, and the script where it is no constant -/
def startH (cs : List (Addr × Addr)) (a : Addr) (script : Option HO) : Hp := fun b => if b ∈ cs.map Prod.snd then some (.tbl #[]) else if b = a then script else none
theorem startH_tab {cs : List (Addr × Addr)} {a : Addr} {script : Option HO} {p : Addr × Addr} (h : p ∈ cs) : startH cs a script p.2 = some (.tbl #[]) := if_pos (List.mem_map_of_mem h)
theorem startH_some {cs : List (Addr × Addr)} {a b : Addr} {script : Option HO} {u : HO} (h : startH cs a script b = some u) : ((∃ p ∈ cs, p.2 = b) ∧ u = .tbl #[]) ∨ (b = a ∧ script = some u) := by
  unfold startH at h
  split at h
  · next hb => exact .inl ⟨List.mem_map.mp hb, (Option.some.inj h).symm⟩
  · split at h
    · next hb => exact .inr ⟨hb, h⟩
    · cases h
theorem lawGT {P : Program} {w : World} {K : PySem.W.Frag} {mg mb : Str → Option Value} {k : Nat} {fa a : Addr} {cs : List (Addr × Addr)} {fd : FuncData} {x : Str}
    {sp : Sp} {s₁ : Shared} {vs : List Value} {ns : List Int}
    (KX : K.In s₁.heap) (hns : s₁.heap.Ns mainGlobals mg) (hb : s₁.heap.Ns builtinsNs mb)
    (hbb : ∀ x : Str, x ≠ "__name__" → mb x = bootBuiltins x) (hlim : s₁.heap.NoLimit) (hsys : SysD s₁.heap) (hg : s₁.gens = #[])
    (tabs : ∀ p ∈ cs, s₁.heap.get? p.2 = some tabO) (free : ∀ p ∈ cs, K.lookup p.2 = none) (codes : ∀ p ∈ cs, PySem.W.CodeHd s₁.heap p.1 p.2)
    (main : ∃ (bm : Addr) (ob : Obj), mg "__builtins__" = some (.ref bm) ∧ bm ≠ builtinsNs ∧ s₁.heap.get? bm = some ob ∧ ob.cls = .type "module" ∧ ob.dict = some builtinsNs ∧ ob.data = .plain)
    (ha : s₁.heap.get? a = some { cls := .type "list", data := .seq vs.toArray }) (hi : IntsAre vs ns)
    (hl : ns.length ≤ sizeLine) (hr : Room k callerA)
    (F : ∀ base : Heap, K.In base → base.Ns mainGlobals mg → SysD base → (∀ p ∈ cs, TabB base mg p.1 p.2) → FnG P w K mg base k fa fd [x] sp)
    (hbind : ∀ (s : Shared) (u : Value), BindsTo s fd ⟨[u], []⟩ [(x, u)])
    (hsp : ∀ H : Hp, (∀ p ∈ cs, H p.2 = some (.tbl #[])) → SqL K H a (ns.map V.int) → sp [.ref a] H (fun v _ => v = .bl true) fun _ _ _ => False) :
    codeAny (model P w) callerA (.call (.ref fa) ⟨[.ref a], []⟩)
      (fun r s' => r = .ok (.ret (.bool true)) ∧ OldK s₁.heap s'.heap ∧ s'.os = s₁.os ∧ AllBare s'.gens) s₁ := by
  have script : ∃ sc : Option HO, (∀ u, sc = some u → K.lookup a = none ∧ u = .frz { cls := .type "list", data := .seq vs.toArray } (.lst (ns.map V.int))) ∧ SqL K (startH cs a sc) a (ns.map V.int) := by
    cases look : K.lookup a with
    | some o =>
      have e := KX a o look
      rw [ha] at e
      obtain rfl := Option.some.inj e
      exact ⟨none, (fun u z => nomatch z), .inr ⟨_, vs.toArray, _, look, rfl, rfl, rfl, by rw [List.size_toArray, hi.length]; exact hl, by simpa using vals_ints hi⟩⟩
    | none =>
      refine ⟨some (.frz { cls := .type "list", data := .seq vs.toArray } (.lst (ns.map V.int))), fun u z => ⟨rfl, (Option.some.inj z).symm⟩, .inl (.inr ⟨({ cls := .type "list", data := .seq vs.toArray } : Obj), ?_⟩)⟩
      have off : a ∉ cs.map Prod.snd := by
        intro z
        obtain ⟨p, hp, e⟩ := List.mem_map.mp z
        have q := tabs p hp
        rw [e, ha] at q
        exact nomatch (show Data.seq vs.toArray _ = Data.fields #[] from congrArg Obj.data (Option.some.inj q))
      unfold startH
      rw [if_neg off, if_pos rfl]
  obtain ⟨sc, known, sq⟩ := script
  have atTab : ∀ p ∈ cs, startH cs a sc p.2 = some (.tbl #[]) := fun p hp => startH_tab hp
  generalize hH : startH cs a sc = H at sq atTab
  have what : ∀ {b : Addr} {u : HO}, H b = some u → ((∃ p ∈ cs, p.2 = b) ∧ u = .tbl #[]) ∨ (b = a ∧ K.lookup a = none ∧ u = .frz { cls := .type "list", data := .seq vs.toArray } (.lst (ns.map V.int))) := by
    intro b u h
    rw [← hH] at h
    rcases startH_some h with z | ⟨e, z⟩
    · exact .inl z
    · exact .inr ⟨e, known u z⟩
  have ok : HOk P w H s₁.heap := by
    intro b u h
    rcases what h with ⟨⟨p, hp, rfl⟩, rfl⟩ | ⟨rfl, _, rfl⟩
    · exact tabs p hp
    · exact ⟨ha, by rw [List.length_map]; exact hl, vs, _, vals_ints hi, ha⟩
  -- all that is neither a list nor an empty table is in sight
  have seen : ∀ {b : Addr} {o : Obj}, s₁.heap.get? b = some o → (∀ xs n, o.data ≠ .seq xs n) → o.data ≠ .fields #[] → (hidT s₁.heap H).get? b = some o := by
    intro b o e d1 d2
    refine hidT_get e ?_
    cases q : H b with
    | none => rfl
    | some u =>
      rcases what q with ⟨⟨p, hp, rfl⟩, _⟩ | ⟨rfl, _⟩
      · rw [tabs p hp] at e
        exact absurd (by rw [← Option.some.inj e]) d2
      · rw [ha] at e
        exact absurd (by rw [← Option.some.inj e]) (d1 vs.toArray _)
  have names : ∀ {b : Addr} {m : Str → Option Value}, s₁.heap.Ns b m → (hidT s₁.heap H).Ns b m := by
    rintro b m ⟨o, es, ep, e, d, r⟩
    exact ⟨o, es, ep, seen e (fun xs n z => nomatch (d.symm.trans z)) (fun z => nomatch (d.symm.trans z)), d, r⟩
  have kIn : K.In (hidT s₁.heap H) := by
    intro b o look
    refine hidT_get (KX b o look) ?_
    cases q : H b with
    | none => rfl
    | some u =>
      rcases what q with ⟨⟨p, hp, rfl⟩, _⟩ | ⟨rfl, z, _⟩
      · rw [free p hp] at look; cases look
      · rw [z] at look; cases look
  have makers : ∀ p ∈ cs, TabB (hidT s₁.heap H) mg p.1 p.2 := by
    intro p hp
    refine ⟨?code, ?bm, ?gP⟩
    case code =>
      obtain ⟨o, us, file, tf, flags, tg, inF, text, tt, e, c, d, rest⟩ := codes p hp
      refine ⟨o, us, file, tf, flags, tg, inF, text, tt, seen e (fun xs n z => nomatch (d.symm.trans z)) (fun z => ?_), c, d, rest⟩
      have := Data.fields.inj (d.symm.trans z)
      subst this
      exact nomatch rest.1
    case bm =>
      obtain ⟨bm, ob, b1, b2, b3, b4, b5, b6⟩ := main
      refine ⟨bm, ob, b1, b2, fun z => ?_, fun z => ?_, seen b3 (fun xs n z => nomatch (b6.symm.trans z)) (fun z => nomatch (b6.symm.trans z)), b4, b5, b6⟩
      · obtain ⟨o, es, ep, e, d, _⟩ := hns
        rw [← z, b3] at e
        exact nomatch (b6.symm.trans ((congrArg Obj.data (Option.some.inj e)).trans d))
      · have e := tabs p hp
        rw [← z, b3] at e
        exact nomatch (b6.symm.trans (congrArg Obj.data (Option.some.inj e)))
    case gP =>
      intro z
      obtain ⟨o, es, ep, e, d, _⟩ := hns
      rw [z, tabs p hp] at e
      exact nomatch ((congrArg Obj.data (Option.some.inj e)).trans d)
  have modl : Mod K mg (hidT s₁.heap H) := by
    obtain ⟨mc, l1, l2⟩ := hlim
    exact ⟨kIn, names hns, ⟨mb, names hb, hbb⟩, ⟨mc, names l1, l2⟩⟩
  have e0 : Env0 P w K mg (hidT s₁.heap H) callerA [] s₁ H :=
    { frames := rfl, mod := modl, bs := fun b o q => of_hidT q, bsz := Nat.le_of_eq (hidT_size _ _), funs := trivial
      frf := fun b hb => absurd (show b ∈ ([] : List Addr) from hb) List.not_mem_nil, hok := ok, bare := .of_eq hg }
  have sysD : SysD (hidT s₁.heap H) := let ⟨mm, q⟩ := hsys; ⟨mm, names q⟩
  refine codeAny_mono ((F _ kIn (names hns) sysD makers).run callerA [] s₁ H ⟨[.ref a], []⟩ [.ref a] [.ref a] _ _ rfl hr e0 (hbind s₁ (.ref a)) (.cons rfl .nil) (hsp H atTab sq)) ?_
  intro r s' out
  match r, out with
  | .ok (.ret u), out =>
    obtain ⟨v, H', hos, hbare, un, ok', rel, rfl⟩ := out
    obtain rfl : u = Value.bool true := rel
    have grown : ∀ p ∈ cs, ∃ more : Array Value, s'.heap.get? p.2 = some { cls := .none, data := .fields more } := by
      intro p hp
      obtain ⟨more, q⟩ := un.tbls p.2 #[] (atTab p hp)
      exact ⟨_, ok' p.2 _ q⟩
    have kept : ∀ {b : Addr} {o : Obj}, (¬ ∃ p ∈ cs, p.2 = b) → s₁.heap.get? b = some o → s'.heap.get? b = some o := by
      intro b o nb e
      cases q : H b with
      | none => exact un.keep b o e q (fun z => absurd (show b ∈ ([] : List Addr) from z) List.not_mem_nil) List.not_mem_nil
      | some u =>
        rcases what q with ⟨z, _⟩ | ⟨_, _, rfl⟩
        · exact absurd z nb
        · have now := (ok' b _ (un.frzs b _ _ q)).1
          have then_ := (ok b _ q).1
          rw [then_] at e
          rw [now]
          exact e
    refine ⟨rfl, ⟨fun b o e => ?_, fun b o e => ?_⟩, hos, hbare⟩
    · by_cases z : ∃ p ∈ cs, p.2 = b
      · obtain ⟨p, hp, rfl⟩ := z
        obtain ⟨more, q⟩ := grown p hp
        have t := tabs p hp
        rw [t] at e
        obtain rfl := Option.some.inj e
        exact .inr (.inl ⟨((codes p hp).tab t).isCodeTable, rfl, #[], more, rfl, by rw [Array.empty_append]; exact q⟩)
      · exact .inl (kept z e)
    · by_cases z : ∃ p ∈ cs, p.2 = b
      · obtain ⟨p, hp, rfl⟩ := z
        obtain ⟨more, q⟩ := grown p hp
        exact ⟨_, q⟩
      · exact ⟨o, kept z e⟩
/-- the walk of a law whose defs make lambdas -/
theorem walkGT {l : PySem.W.OpenLaw} {n k : Nat} {q : Program} {loose : List Str} {XP : (Str → Option Value) → Heap → Prop}
    {YP : World → Heap → Prop} {d : DefRec} {K : Params → PySem.W.Frag} {x : Str}
    (hn : l.most = some n) (hn2 : n ≤ sizeLine) (hdf : d.params.defaults = []) (hr : Room k callerA) (hq : importsNone q = true)
    (hY : ∀ (w : World) (h : Heap), YP w h → (K w.params).In h)
    (F : ∀ (w : World) (mg : Str → Option Value) (fa : Addr) (h : Heap), YP w h → (K w.params).In h → h.Ns mainGlobals mg → mg d.name = some (.ref fa) →
      ∃ (fd : FuncData) (cs : List (Addr × Addr)) (sp : Sp), (∀ p ∈ cs, h.get? p.2 = some tabO) ∧ (∀ p ∈ cs, (K w.params).lookup p.2 = none) ∧ (∀ p ∈ cs, PySem.W.CodeHd h p.1 p.2) ∧
        (∀ (s : Shared) (u : Value), BindsTo s fd ⟨[u], []⟩ [(x, u)]) ∧
        (∀ (H : Hp) (a : Addr) (ns : List Int), ns.length ≤ n → (∀ p ∈ cs, H p.2 = some (.tbl #[])) → SqL (K w.params) H a (ns.map V.int) → sp [.ref a] H (fun v _ => v = .bl true) fun _ _ _ => False) ∧
        ∀ base : Heap, (K w.params).In base → base.Ns mainGlobals mg → SysD base → (∀ p ∈ cs, TabB base mg p.1 p.2) → FnG l.prog w (K w.params) mg base k fa fd [x] sp) :
    PySem.W.WalkO q loose XP YP l.row.toRowW d [] (fun f vs => PySem.call f vs) := by
  refine Att.attach_call hn hdf ?_
  intro w s₀ s₁ mg mb fa o pm cd doc a vs ns G Y _ _ _ hmg hobj hints hlen hg
  have KX := hY w _ Y
  obtain ⟨fd, cs, sp, t1, t2, t3, hbd, hsp, hF⟩ := F w mg fa _ Y KX G.T.g hmg
  exact lawGT KX G.T.g G.T.b G.T.builtins G.T.nolimit (let ⟨mm, q, _⟩ := (G.T.seer hq).mods; ⟨mm, q⟩) hg t1 t2 t3 G.T.bmain hobj hints (Nat.le_trans hlen hn2) hr hF hbd
    (fun H hT hS => hsp H a ns hlen hT hS)
end MG

/-! MG: sorted(t, key=lambda p: ..) of a tuple of whole numbers; the lambda is held as a def within a def that has no rows. -/
namespace MG
open PySem PySem.Spec PyProof.Rows L2 LamX NdefX

abbrev lamOf (X : Cx) (params : Arguments) (scope : Scope) (c : Addr) : NF :=
  { name := "<lambda>", qual := X.env.qual ++ "<lambda>", params := params, body := [], scope := scope,
    cl := cloFrom X.env.cells scope.names [], c := c }
abbrev lamObj (X : Cx) (params : Arguments) (body : Expr) (scope : Scope) (pm : Value) (c : Addr) (ct : Value) : Obj :=
  PySem.W.kla_obj "<lambda>" (X.env.qual ++ "<lambda>") params body scope (cloFrom X.env.cells scope.names []) pm c ct
abbrev lamCtx (X : Cx) (N : List Str) (params : Arguments) (scope : Scope) (f c : Addr) (A : Around) (s : Shared) (H : Hp) : Cx :=
  ncx CX0 X.prog X.w X.K X.mg X.base N (lamOf X params scope c) f A X.stack s H (fun _ _ _ => False)

section one
variable {X : Cx} {pins : List (Addr × Obj)} {σ : L2.St} {H : Hp} {s : Shared} {A : Around}

/-- the lambda asked of one value -/
theorem lam_value {N fr : List Str} {js : List Nat} {p : Str} {f c : Addr} {k : Nat} {params : Arguments} {body : Expr}
    {scope : Scope} {pm ct u : Value} {v : V} {tb : TE} {Q : VK} (I : Inv X pins σ H s) (room : Room (k + 1) A)
    (env : Env0 X.prog X.w X.K X.mg X.base A X.stack s H) (S : NScope N [p] fr scope)
    (cap : Caps X (cloFrom X.env.cells scope.names []) fr js)
    (obj : s.heap.get? f = some (lamObj X params body scope pm c ct))
    (cod : H c = some (CodeO c (X.env.qual ++ "<lambda>")))
    (bnd : bindArgs (PySem.W.kla_fn "<lambda>" (X.env.qual ++ "<lambda>") params body scope
      (cloFrom X.env.cells scope.names []) pm (.ref c) ct) ⟨[u], []⟩ = pure [(p, u)])
    (rel : RelV v u)
    (bod : Room k (A.deeper (envF (lamOf X params scope c) f s.heap.objs.size)) → PE (lamCtx X N params scope f c A s H) body tb)
    (want : tb (startF N [v] (js.map (slotAt σ))) H Q) :
    wpAny (model X.prog X.w) A (call (.ref f) [u]) (EP X pins σ Q) (fun _ _ => False) s := by
  refine wpAny_call (codeAny_mono (PySem.W.kla_callFunE (R := CR CX0 X.stack X.prog X.w H s Q fun _ _ _ => False)
    room.depth obj rfl S.co S.gen rfl (codeO_at I.hok cod) ?goes) ?ends)
  case goes =>
    rw [bnd]
    refine wpAny_pure (wpAny_newFunctionEnv S.nocell ?loc ?fram S.kind)
    case loc =>
      intro y hy
      obtain rfl := List.mem_singleton.mp hy
      exact S.par p (List.mem_singleton.mpr rfl)
    case fram =>
      intro g space but
      have grows : ∀ b o, s.heap.get? b = some o → g.get? b = some o := by
        intro b o there
        refine but.extBut b o ?_ (Heap.get?_push_of_some _ there)
        exact Nat.ne_of_lt (Heap.lt_size there)
      refine ⟨I.nolimit.fresh _ but, PySem.W.kla_codeExpr ?_⟩
      have J := inv_startN (CX := CX0) (F := lamOf X params scope c) (f := f) (E := fun _ _ _ => False)
        (vs := [v]) (us := [u]) (tk := s.toks + 1) S room.hd env rfl (.cons rel .nil) (cells_of I cap) space grows
      refine wpAny_mono ((bod (room.deeper _)).run [] _ _ H Q J want) ?_ (fun _ _ z => z)
      rintro r s' ⟨x, H', K', rr, q⟩
      exact ⟨x, H', K'.os, K'.bare, K'.base, K'.hok, rr, q⟩
  case ends =>
    intro r s' out
    match r, out with
    | .ok (.ret r'), out => exact I.after out
end one
end MG

/-! MG: objects of a built-in's own that are pinned, changed, and at last known to the reading. -/
namespace MG
open PySem PySem.Spec PyProof.Rows L2

section pin
variable {X : Cx} {pins : List (Addr × Obj)} {σ : L2.St} {H : Hp} {s : Shared}
theorem top_pin {q : Addr × Obj} (I : Inv X (q :: pins) σ H s) :
    s.heap.get? q.1 = some q.2 ∧ H q.1 = none ∧ q.1 ≠ X.env.locals ∧ q.1 ∉ X.fs ∧ ∀ v, q.2.data ≠ .cell v :=
  I.pin q (List.mem_append_right X.pn (List.mem_cons_self ..))
theorem off_pin {q : Addr × Obj} (I : Inv X (q :: pins) σ H s) : Inv X pins σ H s :=
  I.pins_of fun r hr => I.pin r (List.mem_append_right X.pn (List.mem_cons_of_mem q hr))
/-- no captured name's cell is a pinned object -/
theorem not_cell {q : Addr × Obj} (I : Inv X (q :: pins) σ H s) : ∀ x c, X.env.cells.lookup x = some c → c ≠ q.1 := by
  intro x c look same
  obtain ⟨v, o, at_, cel⟩ := I.cell x c look
  have known := top_pin I
  rw [same, known.1] at at_
  exact known.2.2.2.2 v (by rw [Option.some.inj at_]; exact cel)
/-- a new object, pinned -/
theorem new_pin {o : Obj} (I : Inv X pins σ H s) (nc : ∀ v, o.data ≠ .cell v) (live : o.isFreed = false) :
    Inv X ((s.heap.objs.size, o) :: pins) σ H { s with heap := s.heap.push o } := by
  have J := I.kept (t' := s.toks) (h' := s.heap.push o) fun b u there => Heap.get?_push_of_some _ there
  refine J.pins_of fun r hr => ?_
  cases hr with
  | head => exact ⟨Heap.get?_push_size _ live, I.hok.fresh (Nat.le_refl _), Nat.ne_of_gt I.lt, I.nofs (Nat.le_refl _), nc⟩
  | tail _ hr => exact J.pin r (List.mem_append_right X.pn hr)
/-- a pinned object of ours is changed -/
theorem re_pin {it : Addr} {o o' : Obj} {g : Heap} (I : Inv X ((it, o) :: pins) σ H s) (ours : X.s_0.heap.objs.size ≤ it)
    (apart : ∀ r ∈ X.pn ++ pins, r.1 ≠ it) (off : ∀ b u, b ≠ it → s.heap.get? b = some u → g.get? b = some u)
    (put : g.get? it = some o') (nc : ∀ v, o'.data ≠ .cell v) : Inv X ((it, o') :: pins) σ H { s with heap := g } := by
  have known := top_pin I
  have J := (off_pin I).turned (t' := s.toks) off known.2.1 known.2.2.1 (Or.inr ours) (not_cell I) apart
  refine J.pins_of fun r hr => ?_
  cases hr with
  | head => exact ⟨put, known.2.1, known.2.2.1, known.2.2.2.1, nc⟩
  | tail _ hr => exact J.pin r (List.mem_append_right X.pn hr)
/-- two pinned objects of ours: the second is let go, the first is a list from now on -/
theorem lay_pin {a d : Addr} {oa od : Obj} {g : Heap} {tk : Nat} {xs : List V} {us : List Value} {n : Nat}
    (I : Inv X ((d, od) :: (a, oa) :: pins) σ H s) (oursA : X.s_0.heap.objs.size ≤ a) (oursD : X.s_0.heap.objs.size ≤ d)
    (apartA : ∀ r ∈ X.pn ++ pins, r.1 ≠ a) (apartD : ∀ r ∈ X.pn ++ pins, r.1 ≠ d)
    (off : ∀ b u, b ≠ a → b ≠ d → s.heap.get? b = some u → g.get? b = some u)
    (put : g.get? a = some (seqObj "list" us.toArray n)) (fits : xs.length ≤ sizeLine) (rel : Vals xs us) :
    Inv X pins σ (upd H a (.lst xs)) { s with heap := g, toks := tk } := by
  have kd := top_pin I
  have ka := top_pin (off_pin I)
  have base := off_pin (off_pin I)
  have neA : ∀ b u, H b = some u → b ≠ a := fun b u hb e => nomatch (show (none : Option HO) = some u from (by rw [← hb, e]; exact ka.2.1.symm))
  have neD : ∀ b u, H b = some u → b ≠ d := fun b u hb e => nomatch (show (none : Option HO) = some u from (by rw [← hb, e]; exact kd.2.1.symm))
  have old : ∀ b u, H b = some u → upd H a (.lst xs) b = some u := fun b u hb => (upd_ne (neA b u hb)).trans hb
  have out : ∀ b, b ∉ [a, d] → b ≠ a ∧ b ≠ d := fun b hb =>
    ⟨fun e => hb (e ▸ List.mem_cons_self ..), fun e => hb (e ▸ List.mem_cons_of_mem _ (List.mem_cons_self ..))⟩
  refine base.step (g' := s.gens) (d' := s.drawn) (ch := [a, d]) ?free ?keep ?slot ?none ?there (fun b ys hb => old b _ hb)
    (fun b o u hb => old b _ hb) (fun b ps hb => ⟨#[], (old b _ hb).trans (by rw [Array.append_empty])⟩) ?space ?held base.bare
  case free =>
    intro b hb
    cases hb with
    | head => exact ⟨Or.inr oursA, ka.2.2.1, not_cell (off_pin I), apartA⟩
    | tail _ hb =>
      obtain rfl := List.mem_singleton.mp hb
      exact ⟨Or.inr oursD, kd.2.2.1, not_cell I, apartD⟩
  case keep => exact fun b o _ _ hb there _ => off b o (out b hb).1 (out b hb).2 there
  case slot => exact fun b o _ _ hb there _ => ⟨o.slots, off b o (out b hb).1 (out b hb).2 there⟩
  case none => exact fun b o hb _ free => (upd_ne (out b hb).1).trans free
  case there => exact fun b o hb there => ⟨o, off b o (out b hb).1 (out b hb).2 there⟩
  case space =>
    rintro m ⟨o, es, ep, at_, rest⟩
    exact ⟨o, es, ep, off _ o ka.2.2.1.symm kd.2.2.1.symm at_, rest⟩
  case held =>
    intro b u hb
    by_cases same : b = a
    · subst same
      rw [upd_same] at hb
      obtain rfl := Option.some.inj hb
      exact ⟨fits, us, n, rel, put⟩
    · rw [upd_ne same] at hb
      refine (base.hok b u hb).stay (fun c v hc there => ?_) (fun c hc => old c _ hc) (fun c ys hc => old c _ hc)
      cases hc with
      | inl e => exact off c v (e ▸ same) (e ▸ neD b u hb) there
      | inr e => exact off c v (neA c _ e) (neD c _ e) there
end pin

/-- sorted of a tuple is the sort of a new list -/
theorem sort_tuple {prog : Program} {w : World} {A : Around} {E : Value → Shared → Prop} {s : Shared} {l : Addr} {us : List Value}
    {kw : List (Str × Value)} {Q : Value → Shared → Prop} (tup : IsTup s.heap l us.toArray) (fits : us.length ≤ sizeLine)
    (args : argsOk "sorted" ⟨[.ref l], kw⟩) (args2 : ∀ x, argsOk "list.sort" ⟨[.ref x], kw⟩)
    (sort : ∀ g : Heap, (∀ b o, s.heap.get? b = some o → g.get? b = some o) → ∀ E' : Value → Shared → Prop,
      wpAny (model prog w) A.in1.in1 (Builtin.«list.sort» ⟨[.ref g.objs.size], kw⟩)
        (fun r s' => r = .done (.ret .none) ∧ Q (.ref g.objs.size) s') E' { s with heap := g.push (seqObj "list" us.toArray 0) }) :
    wpAny (model prog w) A (call (.builtin "sorted") [.ref l] kw) Q E s := by
  obtain ⟨o, at_, cls, n, dat⟩ := tup
  refine call_function_entry_kw kind_sorted plain_sorted entry_sorted args (?_ : wpAny _ _ (Builtin.«sorted» _) _ _ _)
  unfold Builtin.«sorted»
  refine wpAny_bind (m := checkCount _ _ _ _) (wpAny_pure (wpAny_bind (wpAny_collect_seq l (Or.inr rfl) at_ cls dat ?_ (by rw [List.size_toArray]; exact fits))))
  intro g grows
  rw [show us.toArray.toList = us from rfl]
  refine wpAny_bind (wpAny_newList (wpAny_bind (wpAny_holding (wpAny_call_entry_kw slot_list_sort ⟨_, Heap.get?_push_size g rfl, rfl⟩ entry_list_sort (wpAny_mono (sort g grows _) ?_ fun _ _ z => z) (args2 _)))) fits)
  rintro r s' ⟨rfl, q⟩
  exact ⟨_, rfl, wpAny_pure ⟨_, rfl, q⟩⟩
end MG

/-! MG: a list sorted by keys that a function of ours tells. -/
namespace MG
open PySem PySem.Spec PyProof.Rows L2 LamX NdefX
open PySem.W (EachIs)

/-- the numbers, sorted by g, alike ones as they stood -/
def srt (g : Int → Int) (ns : List Int) : List Int := ns.mergeSort fun x y => decide (g x ≤ g y)
def IsI (u : Value) (n : Int) : Prop := RelV (.int n) u
theorem is_of {us : List Value} : ∀ {ns : List Int}, Vals (ns.map V.int) us → EachIs IsI us ns := by
  induction us with
  | nil =>
    intro ns h
    cases ns with
    | nil => exact .nil
    | cons n ns => exact nomatch h
  | cons u us ih =>
    intro ns h
    cases ns with
    | nil => exact nomatch h
    | cons n ns =>
      cases h with
      | cons a b => exact .cons a (ih b)
theorem is_to {us : List Value} : ∀ {ns : List Int}, EachIs IsI us ns → Vals (ns.map V.int) us := by
  induction us with
  | nil =>
    intro ns h
    cases h
    exact .nil
  | cons u us ih =>
    intro ns h
    cases h with
    | cons a b => exact .cons a (ih b)
theorem is_at {us : List Value} {ns : List Int} (h : EachIs IsI us ns) : ∀ {i : Nat} {u : Value}, us[i]? = some u → ∃ n, ns[i]? = some n ∧ IsI u n := by
  induction h with
  | nil =>
    intro i u e
    rw [List.getElem?_nil] at e
    exact nomatch e
  | cons a _ ih =>
    intro i u e
    match i, e with
    | 0, e =>
      rw [List.getElem?_cons_zero] at e
      exact ⟨_, rfl, Option.some.inj e ▸ a⟩
    | i + 1, e =>
      rw [List.getElem?_cons_succ] at e ⊢
      exact ih e

section
variable {X : Cx} {pins : List (Addr × Obj)} {σ : L2.St} {H : Hp} {A : Around} {E : Value → Shared → Prop} {P : PySem.Fin → Shared → Prop}
abbrev lstO (xs : Array Value) (n : Nat) : Obj := seqObj "list" xs n
/-- what f tells of n is g n, whatever of ours is pinned, and nothing changes -/
def Tells (X : Cx) (A : Around) (σ : L2.St) (H : Hp) (f : Addr × Obj) (g : Int → Int) (ns : List Int) : Prop :=
  ∀ n ∈ ns, ∀ (u : Value) (ps : List (Addr × Obj)) (s : Shared), IsI u n → f ∈ ps → Inv X ps σ H s →
    wpAny (model X.prog X.w) A (call (.ref f.1) [u]) (EP X ps σ fun v H' => H' = H ∧ v = .int (g n)) (fun _ _ => False) s
/-- the keys are asked, one behind the other, and kept in the list at d; then the items are sorted by them, into a -/
theorem by_keys {s : Shared} {a d : Addr} {f : Addr × Obj} {us : List Value} {ns : List Int} {g : Int → Int} {e1 : Nat} (items : EachIs IsI us ns)
    (I : Inv X ((d, lstO #[] 0) :: (a, lstO #[] e1) :: f :: pins) σ H s) (ne : d ≠ a) (oursA : X.s_0.heap.objs.size ≤ a) (oursD : X.s_0.heap.objs.size ≤ d)
    (apartA : ∀ r ∈ X.pn ++ (f :: pins), r.1 ≠ a) (apartD : ∀ r ∈ X.pn ++ (f :: pins), r.1 ≠ d) (fits : us.length ≤ sizeLine) (units : A.units < cLine)
    (tells : Tells X A σ H f g ns) (end_ : ∀ s', Inv X pins σ (upd H a (.lst ((srt g ns).map V.int))) s' → P (.done (.ret .none)) s') :
    wpAny (model X.prog X.w) A (ksk_rest a (.ref f.1) false us.toArray e1 (.ref d)) P E s := by
  have lenI : us.length = ns.length := items.length
  have apartD2 : ∀ r ∈ X.pn ++ ((a, lstO #[] e1) :: f :: pins), r.1 ≠ d := by
    intro r hr
    rcases List.mem_append.mp hr with z | z
    · exact apartD r (List.mem_append_left _ z)
    · cases z with
      | head => exact ne.symm
      | tail _ z => exact apartD r (List.mem_append_right _ z)
  let Kept : Nat → Shared → Prop := fun i t => ∃ ks n, Inv X ((d, lstO ks n) :: (a, lstO #[] e1) :: f :: pins) σ H t ∧ EachIs IsI ks.toList ((ns.map g).take i)
  have turn : ∀ (j : Nat) (u : Value) (t : Shared), us[j]? = some u → Kept j t →
      wpAny (model X.prog X.w) A (call (.ref f.1) [u]) (fun k t2 => ∃ ks n, ks.size ≤ us.length ∧ t2.heap.get? d = some (lstO ks n) ∧
        ∀ h2 n2, (∀ b o, b ≠ d → t2.heap.get? b = some o → h2.get? b = some o) → h2.get? d = some (lstO (ks.push k) n2) → Kept (j + 1) { t2 with heap := h2 }) (fun _ _ => False) t := by
    rintro j u t hu ⟨ks, n, J, hks⟩
    obtain ⟨m, hm, ru⟩ := is_at items hu
    refine wpAny_mono (tells m (List.mem_of_getElem? hm) u _ t ru (List.mem_cons_of_mem _ (List.mem_cons_of_mem _ (List.mem_cons_self ..))) J) ?_ fun _ _ z => z
    rintro k t2 ⟨v, H2, J2, rk, rfl, rfl⟩
    have small : ks.size ≤ us.length := by
      have := hks.length
      simp only [Array.length_toList, List.length_take, List.length_map] at this
      omega
    refine ⟨ks, n, small, (top_pin J2).1, fun h2 n2 off put => ⟨ks.push k, n2, re_pin J2 oursD apartD2 off put (fun v z => nomatch z), ?_⟩⟩
    rw [Array.toList_push, List.take_add_one, List.getElem?_map, hm]
    exact PySem.W.each_snoc (R := IsI) rk hks
  have last : ∀ t : Shared, Kept us.length t → ∀ {F : Value → Shared → Prop}, wpAny (model X.prog X.w) A (do
      let ks ← Builtin.List.listItems (.ref d)
      ksk_end a false us.toArray e1 (.ref d) ks) P F t := by
    rintro t ⟨ks, n, J, hks⟩ F
    rw [List.take_of_length_le (by rw [List.length_map]; omega)] at hks
    have size : ks.size = us.length := by
      have := hks.length
      simp only [Array.length_toList, List.length_map] at this
      omega
    let kd : List PyData := ns.map fun n => .int (g n)
    have reads : EachIs (fun v k => ∃ as, Reads t.heap v k as) ks.toList kd := by
      have : kd = (ns.map g).map PyData.int := by rw [List.map_map]; rfl
      rw [this]
      refine PySem.W.each_map (R := fun v k => ∃ as, Reads t.heap v k as) PyData.int (hks.mono ?_)
      rintro u m ⟨tok, rfl⟩
      exact ⟨[], .int m tok⟩
    have alike : PySem.W.AllAlike kd := PySem.W.AllAlike.of fun _ _ => rfl
    have sorts : PySem.W.Sortable kd := PySem.W.Sortable.others fun _ => ⟨(fun z => nomatch z), fun _ z => nomatch z⟩
    have S := PySem.W.SortsAt.data (prog := X.prog) (w := X.w) (A := A) reads alike sorts (PySem.W.bound_map fun _ _ => units)
    have pd := top_pin J
    have pa := top_pin (off_pin J)
    -- the heap without the keys' list
    let hid : Hp := upd (fun _ => none) d (.lst [])
    have seen : ∀ {b : Addr} {o : Obj}, (hidT t.heap hid).get? b = some o → t.heap.get? b = some o ∧ b ≠ d := by
      intro b o q
      obtain ⟨q1, q2⟩ := of_hidT q
      exact ⟨q1, fun z => nomatch (show some (HO.lst []) = none from (by rw [← q2, z]; exact upd_same.symm))⟩
    have gone : (hidT t.heap hid).get? d = none := by
      cases q : (hidT t.heap hid).get? d with
      | none => rfl
      | some o => exact absurd rfl (seen q).2
    refine wpAny_bind (listItems_at pd.1 rfl (PySem.W.keyH_end (h₁ := hidT t.heap hid) (fun b o _ q => (seen q).1) gone pd.1 pa.1 ne S size fits ?_))
    intro h' tk c but put
    have out := PySem.W.keyedOut_each (rev := false) (R := IsI) (fun n => PyData.int (g n)) ⟨t.heap, ks.toList, alike, rfl, reads⟩ items
    rw [PySem.W.dataLe_int] at out
    refine end_ _ (off_pin (lay_pin (pins := f :: pins) J oursA oursD apartA apartD (fun b o h1 h2 q => but b o h1 (hidT_get q (upd_ne h2))) put ?_ (is_to out)))
    rw [List.length_map]
    show (srt g ns).length ≤ sizeLine
    unfold srt
    rw [List.length_mergeSort]
    omega
  show wpAny _ _ (rule "list.sort.key" >>= fun _ => _) _ _ _
  refine wpAny_bind (wpAny_rule ?_)
  rw [List.forIn_toArray]
  refine wpAny_bind (ksk_fold Kept us 0 s ⟨#[], 0, I, by rw [List.take_zero]; exact .nil⟩ ?_ ?_)
  · intro j u t hu kept
    rw [Nat.zero_add] at kept
    rw [Nat.zero_add]
    refine wpAny_bind (wpAny_attempt (wpAny_mono (turn j u t hu kept) ?_ fun _ _ z => z.elim))
    rintro k t2 ⟨ks, n, small, at_, go⟩
    have up := get?_update_seq at_ (·.push k)
    refine wpAny_bind (listUpdate_at at_ rfl (wpAny_pure ⟨rfl, go _ _ (fun b o hb q => ((Heap.SameBut.update t2.heap d (Obj.mapSeq (·.push k))).2 b hb).trans q) up⟩) (by omega) (by rw [Array.size_push]; omega))
  · intro t kept
    rw [Nat.zero_add] at kept
    exact last t kept
end
end MG

/-! MG: the rule for sorted(t, key=lambda p: body), t a tuple of whole numbers. -/
namespace MG
open PySem PySem.Spec PyProof.Rows L2 LamX NdefX
open PySem.W (EachIs)
section
variable {X : Cx} {pins : List (Addr × Obj)} {σ : L2.St} {H : Hp} {A : Around} {E : Value → Shared → Prop} {P : PySem.Fin → Shared → Prop}
/-- a new list of ours is sorted by keys -/
theorem by_keys_of {s : Shared} {a : Addr} {f : Addr × Obj} {us : List Value} {ns : List Int} {g : Int → Int} {n : Nat} (items : EachIs IsI us ns)
    (I : Inv X ((a, lstO us.toArray n) :: f :: pins) σ H s) (oursA : X.s_0.heap.objs.size ≤ a) (apartA : ∀ r ∈ X.pn ++ (f :: pins), r.1 ≠ a)
    (fits : us.length ≤ sizeLine) (units : A.units < cLine) (tells : Tells X A σ H f g ns)
    (end_ : ∀ s', Inv X pins σ (upd H a (.lst ((srt g ns).map V.int))) s' → P (.done (.ret .none)) s') :
    wpAny (model X.prog X.w) A (ksk_tree a (.ref f.1) false) P E s := by
  have pa := top_pin I
  have emptied := get?_update_seq pa.1 fun _ => (#[] : Array Value)
  have J := re_pin I oursA apartA (fun b o hb q => ((Heap.SameBut.update s.heap a (Obj.mapSeq fun _ => #[])).2 b hb).trans q) emptied fun v z => nomatch z
  have J2 := off_pin (new_pin (o := seqObj "tuple" us.toArray 0) J (fun v z => nomatch z) rfl)
  have J3 := new_pin (o := lstO #[] 0) J2 (fun v z => nomatch z) rfl
  have old : ∀ r ∈ X.pn ++ (f :: pins), s.heap.get? r.1 = some r.2 := fun r hr => by
    rcases List.mem_append.mp hr with z | z
    · exact (I.pin r (List.mem_append_left _ z)).1
    · exact (I.pin r (List.mem_append_right _ (List.mem_cons_of_mem _ z))).1
  have size : ((s.heap.update a (Obj.mapSeq fun _ => (#[] : Array Value))).push (seqObj "tuple" us.toArray 0)).objs.size = s.heap.objs.size + 1 := by
    rw [size_push', Heap.size_update]
  unfold ksk_tree
  refine wpAny_bind (listItems_at pa.1 rfl (wpAny_bind (listUpdate_at pa.1 rfl ?_ (by simpa using fits) (Nat.zero_le _))))
  refine wpAny_bind (seqEpoch_at emptied rfl (wpAny_bind (wpAny_newTuple (wpAny_bind (wpAny_newList (wpAny_holding ?_) (Nat.zero_le _))) fits)))
  refine by_keys items J3 ?_ oursA ?_ apartA ?_ fits units tells end_
  · rw [size]
    exact Nat.ne_of_gt (Nat.lt_succ_of_lt (Heap.lt_size pa.1))
  · rw [size]
    exact Nat.le_succ_of_le I.sz
  · intro r hr
    rw [size]
    exact Nat.ne_of_lt (Nat.lt_succ_of_lt (Heap.lt_size (old r hr)))
end

/-- the reading: the tuple, the tables, then of each number what the body tells, nothing changed -/
def rSortLam (K : PySem.W.Frag) (T : List (Addr × Str)) (N : List Str) (js : List Nat) (tb : TE) (σ : L2.St) (Q : VK) : List V → Hp → Prop
  | [x], H1 => ∃ (a : Addr) (ns : List Int) (g : Int → Int), x = .ref a ∧ H1 a = some (.tup (ns.map V.int)) ∧ Tabs T H1 ∧
      ∀ H2, ExtN H1 H2 → Tabs T H2 → (∀ n ∈ ns, tb (startF N [.int n] (js.map (slotAt σ))) H2 fun v H' => H' = H2 ∧ v = .int (g n)) ∧
        ∀ q, H2 q = none → Q (.ref q) (upd H2 q (.lst ((srt g ns).map V.int)))
  | _, _ => False
def tSortLam (K : PySem.W.Frag) (T : List (Addr × Str)) (N : List Str) (js : List Nat) (te tb : TE) : TE := fun σ H Q => te σ H fun x H1 => rSortLam K T N js tb σ Q [x] H1
theorem pe_sortLam {X : Cx} {T : List (Addr × Str)} {c P : Addr} {k : Nat} {params : Arguments} {e body : Expr} {scope : Scope} {te tb : TE} {N fr : List Str} {js : List Nat}
    {p lpos pos kpos : Pos} {x : Str} (glob : Gl X "sorted") (plain : X.mg "sorted" = none) (he : PE X e te) (table : TabB X.base X.mg c P) (code : X.env.code = .ref c)
    (mine : (P, X.env.qual ++ "<lambda>") ∈ T) (only : ∀ t ∈ T, t.1 = P → t.2 = X.env.qual ++ "<lambda>") (room : Room (k + 3) X.A) (S : NScope N [x] fr scope)
    (kin : ∀ y ∈ scope.names, y.2 = .free → X.env.scope.names.lookup y.1 = some .cell ∨ X.env.scope.names.lookup y.1 = some .free) (at_ : js.map (fun j => X.N[j]?) = fr.map some)
    (nodef : defaultsOf params X.env = ([], []))
    (bnd : ∀ (q : Str) (cl : List (Str × Addr)) (pm cv ct u : Value), bindArgs (PySem.W.kla_fn "<lambda>" q params body scope cl pm cv ct) ⟨[u], []⟩ = pure [(x, u)])
    (bod : ∀ (A : Around) (s : Shared) (H : Hp) (f c' : Addr), Room k (A.deeper (envF (lamOf X params scope c') f s.heap.objs.size)) → PE (lamCtx X N params scope f c' A s H) body tb)
    (h1 : backTo pos (starEach [e] X.env) = (false, eval e X.env) :: backTo pos (starEach [] X.env) := by rfl) (h2 : (backTo pos (starEach [e] X.env)).any (·.1) = false := by rfl)
    (h3 : starEach [e] X.env = (false, eval e X.env) :: starEach [] X.env := by rfl) :
    PE X (.Call (.Name "sorted" p) [e] [⟨some "key", .Lambda params body scope lpos, kpos⟩] pos) (tSortLam X.K T N js te tb) := by
  refine ⟨?_⟩
  intro pins s σ H Q I want
  have free : ∀ (Z : X.Ok), ∀ y ∈ scope.names, y.2 = .free → ∃ c, X.env.cells.lookup y.1 = some c := fun Z y hy hf => by
    cases kin y hy hf with
    | inl z => exact Z.has _ (Or.inl z)
    | inr z => exact Z.has _ (Or.inr z)
  refine wpAny_Call_Name_kw (ld_blt I glob plain (show bootBuiltins "sorted" = some (.builtin "sorted") by decide +kernel) (PyProof.Rows.callWith_kw (thn ((pa_cons he pa_nil h3).run pos pins s σ H (rSortLam X.K T N js tb σ Q) I want) ?_) h1 h2 (by rfl) (by rfl)) (by decide) (by decide))
  rintro us s1 ⟨vs, H1, I1, rel, go⟩
  match vs, rel, go with
  | [y], rel, go =>
    obtain ⟨a, ns, g, rfl, tup, tabs, go⟩ := go
    obtain rfl := Vals.ref1 rel
    refine wpAny_evalAll_cons (wpAny_bind (lam_make2 I1 table code mine only tabs nodef (free I1.ok) ?_))
    intro f c' pm ct H2 s2 I2 ext tabs2 obj fresh nofr cod
    refine wpAny_bind (wpAny_standAt (wpAny_pure (wpAny_evalAll_nil ?_)))
    obtain ⟨tellsB, end_⟩ := go H2 ext tabs2
    obtain ⟨its, relI, isT, fits⟩ := I2.tuple (.inl (.inl (ext _ _ tup fun ps z => nomatch z)) : SqT X.K H2 a (ns.map V.int))
    have items := is_of relI
    have fits' : its.length ≤ sizeLine := by rw [← relI.length]; exact fits
    have notLocal : f ≠ X.env.locals := by
      intro z
      obtain ⟨m, ⟨o, es, ep, atL, dat, _⟩, _⟩ := I2.loc
      rw [← z, obj] at atL
      obtain rfl := Option.some.inj atL
      exact nomatch dat
    have notFs : f ∉ X.fs := by
      intro z
      apply nofr
      cases I2.ok.stk with
      | inl e => rw [e]; exact z
      | inr e =>
        rw [e.1]
        show f ∈ List.filterMap _ (X.env :: X.outer)
        rw [List.filterMap_cons, e.2]
        exact List.mem_cons_of_mem _ z
    have I3 : Inv X ((f, lamObj X params body scope pm c' ct) :: pins) σ H2 s2 := I2.pins_of fun r hr => by
      cases hr with
      | head => exact ⟨obj, fresh, notLocal, notFs, fun v z => nomatch z⟩
      | tail _ hr => exact I2.pin r (List.mem_append_right X.pn hr)
    have room2 : Room (k + 1) X.A.in1.in1 := room.in1.in1
    change wpAny _ _ (call (.builtin "sorted") [.ref a] [(Str.ofString "key", .ref f)]) _ _ s2
    refine sort_tuple isT fits' (ksk_s1 _ _) (fun _ => ksk_l1 _ _) ?_
    intro h grows E'
    rw [ksk_t1]
    have I4 := new_pin (o := lstO its.toArray 0) (I3.kept (t' := s2.toks) grows) (fun v z => nomatch z) rfl
    refine by_keys_of (f := (f, lamObj X params body scope pm c' ct)) (g := g) items I4 ?_ ?_ fits' room2.units0 ?_ ?_
    · exact (I3.kept (t' := s2.toks) grows).sz
    · intro r hr
      exact Nat.ne_of_lt (Heap.lt_size (grows _ _ (I3.pin r hr).1))
    · intro n hn u ps t ru hf J
      refine lam_value (tb := tb) (pm := pm) (ct := ct) J room2 J.env0.in1.in1 S (Caps.made J.ok kin ?_ at_) ?_ cod (bnd _ _ _ _ _ _) ru (bod _ _ _ _ _) (tellsB n hn)
      · exact fun y hy => PySem.mem_of_lookup (S.frk y hy)
      · exact (J.pin _ (List.mem_append_right X.pn hf)).1
    · intro t J
      exact ⟨rfl, .ref h.objs.size, _, J, rfl, end_ _ ((I3.kept (t' := s2.toks) grows).hok.fresh (Nat.le_refl _))⟩
end MG

/-! MG: a def whose code object is known; tables kept -/
namespace MG
open PySem PySem.Spec PyProof.Rows L2 LamX NdefX
section
variable {P : Program} {w : World} {K : PySem.W.Frag} {mg : Str → Option Value} {base : Heap}
/-- a def by its body, which may know its own code object -/
theorem okC {x qual : Str} {st : Stmt} {f : Addr} {fd : FuncData} {N ps : List Str} {k : Nat} {sp : Sp} {c : Addr}
    (F : Fun K x qual st f fd) (code : fd.code = .ref c) (S : FnScope N ps (defScope st))
    (hlen : ∀ vs H Q E, sp vs H Q E → vs.length = ps.length)
    (body : ∀ (A : Around) (outer : List Env) (s : Shared) (H : Hp) (vs : List V) (Q : VK) (E : XK),
      Room k (A.deeper (envOfC qual (defScope st) s.heap.objs.size f (.ref c))) → sp vs H Q E →
      ∃ t, PSs (cxOf CX0 P w K mg base N qual (defScope st) f (.ref c) A outer s H E).nox (defBody st) t ∧
        t { nx := fun _ H' => Q .non H', rt := Q } (start N vs) H) :
    FnOk P w K mg base CX0 (k + 1) f fd ps sp := by
  obtain ⟨oc, od, kV, doc, pm, an, cdx, ct, osl, rfl, lk, hcd⟩ := F.ex
  obtain rfl : cdx = .ref c := code
  refine ⟨hlen, ?_⟩
  intro A outer s H args us vs Q E room e0 bnd rel want
  have inK : K.In s.heap := e0.mod.kin.keeps (fun b o q => (e0.bs b o q).left)
  have noLim : s.heap.NoLimit := e0.mod.nolimit.keeps (fun b o q => (e0.bs b o q).left)
  refine codeAny_call_function room.depth (inK _ _ lk) rfl S.co S.gen rfl
    (PySem.W.codeRec_of inK hcd) (bnd _ _ _ _ ?_)
  refine wpAny_newFunctionEnv_cells S.kind ?_ ?_
  · rintro ⟨n, v⟩ hy
    rcases S.par n (List.of_mem_zip hy).1 with loc | cel
    · exact Or.inl loc
    · exact Or.inr ⟨cel, PySem.W.cellsFrom_some _ _ _ (Or.inl cel)⟩
  · intro env he s1 x
    subst he
    refine ⟨noLim.keeps x.toInCall.keep, codeAny_func ?_⟩
    obtain ⟨t, ht0, hq⟩ := body A outer s H vs Q E (room.deeper _) want
    have ht := ht0.nox
    have I := inv_start (CX := CX0) (N := N) (qual := qual) (f := f) (cd := .ref c) (E := E) S room.hd e0 (hlen _ _ _ _ want) rel x
    refine wpAny_mono (ht.run [] s1 (start N vs) H _ I hq) ?_ (fun _ _ z => z)
    intro fl s' hs
    cases fl with
    | ret u =>
      obtain ⟨v, σ', H', J, rv, q⟩ := hs
      exact ⟨v, H', J.os, J.bare, J.base, J.hok, rv, q⟩
    | next =>
      obtain ⟨σ', H', J, q⟩ := hs
      exact ⟨V.non, H', J.os, J.bare, J.base, J.hok, rfl, q⟩
    | brk =>
      obtain ⟨_, _, _, q⟩ := hs
      exact q.elim
    | cont =>
      obtain ⟨_, _, _, q⟩ := hs
      exact q.elim
end
/-! ### tables -/
theorem ext_same {H H' : Hp} (s : Same H H') : ExtN H H' := fun b o h _ => s b o h
theorem extTup {H H' : Hp} (e : ExtN H H') {a : Addr} {xs : List V} (h : H a = some (.tup xs)) : H' a = some (.tup xs) := e a _ h fun ps z => nomatch z
theorem extLst {H H' : Hp} (e : ExtN H H') {a : Addr} {xs : List V} (h : H a = some (.lst xs)) : H' a = some (.lst xs) := e a _ h fun ps z => nomatch z
theorem extPr {H H' : Hp} (e : ExtN H H') {ts : List Addr} {cs : List (Int × Int)} (h : PrAt H ts cs) : PrAt H' ts cs := h.mono fun a o ho q => by
  obtain ⟨x, y, rfl⟩ := ho
  exact extTup e q
/-- all but the box and the tables stay -/
def SXN (b : Addr) (H H' : Hp) : Prop := ∀ a o, a ≠ b → H a = some o → (∀ ps, o ≠ .tbl ps) → H' a = some o
theorem SXN.refl (b : Addr) (H : Hp) : SXN b H H := fun _ _ _ h _ => h
theorem SXN.trans {b : Addr} {H H1 H2 : Hp} (x : SXN b H H1) (y : SXN b H1 H2) : SXN b H H2 := fun a o n h z => y a o n (x a o n h z) z
theorem SXN.of {b : Addr} {H H' : Hp} (s : ∀ a o, a ≠ b → H a = some o → H' a = some o) : SXN b H H' := fun a o n h _ => s a o n h
theorem SXN.ofExt {b : Addr} {H H' : Hp} (s : ExtN H H') : SXN b H H' := fun a o _ h z => s a o h z
theorem SXN.tup {b : Addr} {H H' : Hp} (e : SXN b H H') {a : Addr} {xs : List V} (n : a ≠ b) (h : H a = some (.tup xs)) : H' a = some (.tup xs) := e a _ n h fun ps z => nomatch z
/-- tables stay where a list alone is written -/
theorem tabsOff {T : List (Addr × Str)} {b : Addr} {H H' : Hp} {xs : List V} (t : Tabs T H) (hb : H b = some (.lst xs)) (s : ∀ a o, a ≠ b → H a = some o → H' a = some o) : Tabs T H' := by
  intro p hp
  obtain ⟨ps, e, ok, all⟩ := t p hp
  refine ⟨ps, s _ _ (fun z => by rw [z, hb] at e; cases e) e, ok, fun pos cv h => ?_⟩
  obtain ⟨c, ec, hc⟩ := all pos cv h
  exact ⟨c, ec, s _ _ (fun z => by rw [z, hb] at hc; cases hc) hc⟩
end MG

/-! MG: isinstance of a kept exception, or of anything else -/
namespace MG
open PySem PySem.Spec PyProof.Rows L2
/-- a value's type: that of a kept exception too -/
inductive TyE (K : PySem.W.Frag) (H : Hp) : V → Value → Prop where
  | other {x : V} {t : Value} (h : TyX K H x t) : TyE K H x t
  | exc {a D : Addr} (C : ExcC K D) (e : H a = some (ExI (.ref D) a)) : TyE K H (.ref a) (.ref D)
section
variable {X : Cx} {pins : List (Addr × Obj)} {σ : L2.St} {H : Hp} {s : Shared}
theorem kit_e {x : V} {u t : Value} (I : Inv X pins σ H s) (rx : RelV x u) (ty : TyE X.K H x t) :
    ∃ P : Heap → Prop, PySem.W.KitX X.K u t P ∧ P s.heap ∧ u ≠ .builtin "__main__.__loader__#opaque" := by
  cases ty with
  | other h => exact kit_of I rx h
  | @exc a D C e =>
    obtain rfl : u = Value.ref a := rx
    obtain ⟨⟨oe, vs, at_, z, dd⟩, _, _⟩ := I.hok a _ e
    refine ⟨_, PySem.W.handS_kitx_exc (ox := oe) C.hg C.hk C.hs C.hd C.ha C.hn C.ht C.hm, ?_, fun z => nomatch z⟩
    refine ⟨at_, z.1, ?_, ?_⟩
    · unfold PySem.W.notCls
      rw [dd] <;> trivial
    · rw [z.2] <;> trivial
end
/-- isinstance(x, c) -/
def rIsO (K : PySem.W.Frag) : List V → Hp → VK → Prop := fun xs H Q => ∃ (x c : V) (t u : Value) (b : Bool), xs = [x, c] ∧ ClsV c u ∧ TyE K H x t ∧ PySem.W.kitOne K t u = some b ∧ Q (.bl b) H
/-- isinstance(x, (c, ..)) -/
def rIsOT (K : PySem.W.Frag) : List V → Hp → VK → Prop := fun xs H Q => ∃ (x : V) (tp : Addr) (cs : List V) (t : Value) (us : List Value) (b : Bool), xs = [x, .ref tp] ∧ H tp = some (.tup cs) ∧ Paired ClsV cs us ∧ TyE K H x t ∧ PySem.W.kitAny K t us = some b ∧ Q (.bl b) H
section
variable {X : Cx}
theorem call_isO : CallR X (.builtin "isinstance") (rIsO X.K) := by
  rintro pins s σ H xs us Q I r ⟨x, c, t, u, b, rfl, cls, ty, ans, q⟩
  obtain ⟨v1, v2, rfl, r1, r2⟩ := vals2 r
  obtain rfl := cls.eq r2
  obtain ⟨P, kit, holds, notL⟩ := kit_e I r1 ty
  exact PySem.W.kia_one kit I.kIn holds ans notL fun tk => ⟨.bl b, H, I.tok tk, rfl, q⟩
theorem call_isOT : CallR X (.builtin "isinstance") (rIsOT X.K) := by
  rintro pins s σ H xs us Q I r ⟨x, tp, cs, t, ws, b, rfl, atT, cls, ty, ans, q⟩
  obtain ⟨v1, v2, rfl, r1, r2⟩ := vals2 r
  obtain rfl : v2 = Value.ref tp := r2
  obtain ⟨P, kit, holds, notL⟩ := kit_e I r1 ty
  obtain ⟨_, its, rel, ⟨k1, k2, k3, k4⟩, h1, h2, n, h3⟩ := (show ObjOk X.prog X.w H s.heap tp (.tup cs) from I.hok tp _ atT)
  obtain rfl := ClsV.all cls rel
  dsimp only at h2 h3
  subst h2 h3
  exact PySem.W.kia_tup kit I.kIn holds h1 ans notL fun tk => ⟨.bl b, H, I.tok tk, rfl, q⟩
end
end MG
namespace MG
open PySem PySem.Spec PyProof.Rows L2
/-- what is known of an own exception class that is raised with a text -/
structure ExcF (K : PySem.W.Frag) (mg : Str → Option Value) (x : Str) (C : Addr) : Prop where
  g : mg x = some (.ref C)
  x : PySem.W.excIn K C [.type "ValueError", .type "Exception", .type "BaseException", .type "object"] "ValueError.__new__" = true
  k : PySem.W.keepIn K (.ref C) = true
  b : PySem.W.subIn K (.ref C) (.type "BaseException") = some true
  t : PySem.W.typeIn K (.ref C) = some (.type "type")
/-- raise X("..") -/
theorem ps_raiseX {X : Cx} {W : WX} {C : Addr} {x m : Str} {j : Nat} {p p2 pos pos2 : Pos} (hc : X.calm = true) (tk : Takes X W) (F : ExcF X.K X.mg x C) (hg : Gl X x) (hdb : (x == ("__debug__" : Str)) = false := by decide) :
    PS X (.Raise (some (.Call (.Name x p) [.Constant (.str m) j p2] [] pos)) none pos2) (fun _ σ H => W (.ref C) none σ H) :=
  ps_raise hc tk (pmk_own PySem.F.excBase_ValueError F.x F.g F.k (raises_own F.b F.t) hg hdb)
end MG
namespace MG
open PySem PySem.Spec PyProof.Rows L2
/-- the slots of an exception's state are as many as the names -/
theorem takes_len {X : Cx} {W : WX} (t : Takes X W) : Takes X (fun cls d σ H => σ.length = X.N.length → W cls d σ H) := fun u s' ⟨a, B, sI, pins, σ, H, cls, d, e, I, nb, up, sky, na, os, ag, w⟩ =>
  t u s' ⟨a, B, sI, pins, σ, H, cls, d, e, I, nb, up, sky, na, os, ag, w I.len⟩
theorem len4 {α : Type} {l : List α} (h : l.length = 4) : ∃ a b c d, l = [a, b, c, d] := by
  match l, h with
  | [a, b, c, d], _ => exact ⟨a, b, c, d, rfl⟩
end MG
namespace MG
theorem len3 {α : Type} {l : List α} (h : l.length = 3) : ∃ a b c, l = [a, b, c] := by
  match l, h with
  | [a, b, c], _ => exact ⟨a, b, c, rfl⟩
theorem len2 {α : Type} {l : List α} (h : l.length = 2) : ∃ a b, l = [a, b] := by
  match l, h with
  | [a, b], _ => exact ⟨a, b, rfl⟩
end MG

/-! MG: f(b=.., a=..), every parameter by its name, the last one first; defs that know their code object where no repr is under way -/
namespace MG
open PySem PySem.Spec PyProof.Rows L2
theorem vals_app {xs ys : List V} {us vs : List Value} (h : Vals xs us) (k : Vals ys vs) : Vals (xs ++ ys) (us ++ vs) := by
  induction h with
  | nil => exact k
  | cons r _ ih => exact .cons r ih
theorem vals_rev {xs : List V} {us : List Value} (h : Vals xs us) : Vals xs.reverse us.reverse := by
  induction h with
  | nil => exact .nil
  | cons r _ ih =>
    rw [List.reverse_cons, List.reverse_cons]
    exact vals_app ih (.cons r .nil)
/-- how names bind, the last parameter's first -/
def RB (K : PySem.W.Frag) (fd : FuncData) (ps : List Str) : Prop :=
  ∀ (s : Shared) (us : List Value), K.In s.heap → us.length = ps.length → BindsTo s fd ⟨[], ps.reverse.zip us⟩ (ps.zip us.reverse)
theorem rb_of {K : PySem.W.Frag} {x qual : Str} {st : Stmt} {f : Addr} {fd : FuncData} {ps : List Str} (F : Fun K x qual st f fd)
    (h : ∀ (kV doc pm : Value) (an : Option Addr) (cdv ct : Value) (us : List Value), us.length = ps.length →
      bindArgs (PySem.W.fnOf x qual (defArgs st) (defBody st) (defScope st) .none kV doc pm an cdv ct) ⟨[], ps.reverse.zip us⟩ = pure (ps.zip us.reverse)) : RB K fd ps := by
  obtain ⟨oc, od, kV, doc, pm, an, cdv, ct, osl, rfl, lk, hcd⟩ := F.ex
  intro s us _ e
  exact .of_eq (h kV doc pm an cdv ct us e)
/-- the arguments' reading, then the promise of them in the def's order -/
def tCallR (sp : Sp) (E : XK) (tk : TA) : TE := fun σ H Q => tk σ H fun zs H2 => sp zs.reverse H2 Q E
section
variable {X : Cx} {k : Nat} {f : Addr} {fd : FuncData} {ps : List Str} {sp : Sp} {E : XK} {x : Str} {p pos : Pos} {kws : List Keyword} {tk : TA}
theorem pe_callR {CX : CXT} (F : FnOk X.prog X.w X.K X.mg X.base CX k f fd ps sp) (room : Room k X.A) (glob : Gl X x) (at_ : X.mg x = some (.ref f)) (kept : PySem.W.keepIn X.K (.ref f) = true) (names : RB X.K fd ps) (out : Passes CX X E) (args : PK X kws tk)
    (all : (backToKw pos (keywordEach kws X.env)).all (·.1.isSome) = true := by rfl) (these : (backToKw pos (keywordEach kws X.env)).filterMap (·.1) = ps.reverse := by rfl) (nd : (x == ("__debug__" : Str)) = false := by decide)
    (noStar : ((backTo pos (starEach [] X.env)).any (·.1) || (backToKw pos (keywordEach kws X.env)).any (·.1.isNone)) = false := by rfl) : PE X (.Call (.Name x p) [] kws pos) (tCallR sp E tk) := by
  refine ⟨fun pins s σ H Q I want => wpAny_Call_Name_kw (ld_glob I glob at_ (PySem.W.callWith_KW0 (h₀ := X.base) I.ok.mod.kin kept all (thn (args.run pos pins s σ H _ I want) ?_) noStar) nd)⟩
  rintro us s1 ⟨vs, H1, J, rel, q⟩
  refine ⟨J.kIn, ?_⟩
  have many : us.length = ps.length := by
    have z := F.len _ _ _ _ q
    rw [List.length_reverse] at z
    exact rel.length.symm.trans z
  rw [these]
  have run := F.run X.A X.stack s1 H1 ⟨[], ps.reverse.zip us⟩ us.reverse vs.reverse Q E room J.env0 (names s1 us J.kIn many) (vals_rev rel) q
  refine wpAny_call (codeAny_mono run fun r s2 end_ => ?_)
  match r, end_ with
  | .error e, end_ => exact out pins σ H1 s1 e s2 J end_
  | .ok (.ret u), end_ => exact J.after end_
theorem pe_callRG (F : FnG X.prog X.w X.K X.mg X.base k f fd ps sp) (gd : X.A.guards = some []) (room : Room k X.A) (glob : Gl X x) (at_ : X.mg x = some (.ref f)) (kept : PySem.W.keepIn X.K (.ref f) = true) (names : RB X.K fd ps) (args : PK X kws tk)
    (all : (backToKw pos (keywordEach kws X.env)).all (·.1.isSome) = true := by rfl) (these : (backToKw pos (keywordEach kws X.env)).filterMap (·.1) = ps.reverse := by rfl) (nd : (x == ("__debug__" : Str)) = false := by decide)
    (noStar : ((backTo pos (starEach [] X.env)).any (·.1) || (backToKw pos (keywordEach kws X.env)).any (·.1.isNone)) = false := by rfl) : PE X (.Call (.Name x p) [] kws pos) (tCallR sp E tk) := by
  refine ⟨fun pins s σ H Q I want => wpAny_Call_Name_kw (ld_glob I glob at_ (PySem.W.callWith_KW0 (h₀ := X.base) I.ok.mod.kin kept all (thn (args.run pos pins s σ H _ I want) ?_) noStar) nd)⟩
  rintro us s1 ⟨vs, H1, J, rel, q⟩
  refine ⟨J.kIn, ?_⟩
  have many : us.length = ps.length := by
    have z := F.len _ _ _ _ q
    rw [List.length_reverse] at z
    exact rel.length.symm.trans z
  rw [these]
  have run := F.run X.A X.stack s1 H1 ⟨[], ps.reverse.zip us⟩ us.reverse vs.reverse Q E gd room J.env0 (names s1 us J.kIn many) (vals_rev rel) q
  refine wpAny_call (codeAny_mono run fun r s2 end_ => ?_)
  match r, end_ with
  | .error e, end_ => exact False.elim end_
  | .ok (.ret u), end_ => exact J.after end_
end
section
variable {P : Program} {w : World} {K : PySem.W.Frag} {mg : Str → Option Value} {base : Heap}
/-- a def by its body, which may know its own code object, where no repr is under way -/
theorem okGC {x qual : Str} {st : Stmt} {f : Addr} {fd : FuncData} {N ps : List Str} {k : Nat} {sp : Sp} {c : Addr}
    (F : Fun K x qual st f fd) (code : fd.code = .ref c) (S : FnScope N ps (defScope st)) (hlen : ∀ vs H Q E, sp vs H Q E → vs.length = ps.length)
    (body : ∀ (A : Around) (outer : List Env) (s : Shared) (H : Hp) (vs : List V) (Q : VK) (E : XK),
      A.guards = some [] → Room k (A.deeper (envOfC qual (defScope st) s.heap.objs.size f (.ref c))) → sp vs H Q E →
      ∃ t, PSs (cxOf CX0 P w K mg base N qual (defScope st) f (.ref c) A outer s H E).nox (defBody st) t ∧
        t { nx := fun _ H' => Q .non H', rt := Q } (start N vs) H) :
    FnG P w K mg base (k + 1) f fd ps sp := by
  obtain ⟨oc, od, kV, doc, pm, an, cdx, ct, osl, rfl, lk, hcd⟩ := F.ex
  obtain rfl : cdx = .ref c := code
  refine ⟨hlen, ?_⟩
  intro A outer s H args us vs Q E gd room e0 bnd rel want
  have inK : K.In s.heap := e0.mod.kin.keeps (fun b o q => (e0.bs b o q).left)
  have noLim : s.heap.NoLimit := e0.mod.nolimit.keeps (fun b o q => (e0.bs b o q).left)
  refine codeAny_call_function room.depth (inK _ _ lk) rfl S.co S.gen rfl
    (PySem.W.codeRec_of inK hcd) (bnd _ _ _ _ ?_)
  refine wpAny_newFunctionEnv_cells S.kind ?_ ?_
  · rintro ⟨n, v⟩ hy
    rcases S.par n (List.of_mem_zip hy).1 with loc | cel
    · exact Or.inl loc
    · exact Or.inr ⟨cel, PySem.W.cellsFrom_some _ _ _ (Or.inl cel)⟩
  · intro env he s1 x
    subst he
    refine ⟨noLim.keeps x.toInCall.keep, codeAny_func ?_⟩
    obtain ⟨t, ht0, hq⟩ := body A outer s H vs Q E gd (room.deeper _) want
    have ht := ht0.nox
    have I := inv_start (CX := CX0) (N := N) (qual := qual) (f := f) (cd := .ref c) (E := E) S room.hd e0 (hlen _ _ _ _ want) rel x
    refine wpAny_mono (ht.run [] s1 (start N vs) H _ I hq) ?_ (fun _ _ z => z)
    intro fl s' hs
    cases fl with
    | ret u =>
      obtain ⟨v, σ', H', J, rv, q⟩ := hs
      exact ⟨v, H', J.os, J.bare, J.base, J.hok, rv, q⟩
    | next =>
      obtain ⟨σ', H', J, q⟩ := hs
      exact ⟨V.non, H', J.os, J.bare, J.base, J.hok, rfl, q⟩
    | brk =>
      obtain ⟨_, _, _, q⟩ := hs
      exact q.elim
    | cont =>
      obtain ⟨_, _, _, q⟩ := hs
      exact q.elim
end
end MG
namespace MG
open PySem PySem.Spec PyProof.Rows L2 LamX
mutual
/-- data stay where only tables of code objects are written -/
theorem Dd.ext {H H' : Hp} (s : ExtN H H') : ∀ {v : V} {d : PyData}, Dd H v d → Dd H' v d
  | _, _, .non => .non
  | _, _, .bl b => .bl b
  | _, _, .int i => .int i
  | _, _, .str x => .str x
  | _, _, .lst e r => .lst (extLst s e) (DdAll.ext s r)
  | _, _, .tup e r => .tup (extTup s e) (DdAll.ext s r)
  | _, _, .dic e r => .dic (s _ _ e fun ps z => nomatch z) (DdAll.ext s r)
theorem DdAll.ext {H H' : Hp} (s : ExtN H H') : ∀ {vs : List V} {ds : List PyData}, DdAll H vs ds → DdAll H' vs ds
  | _, _, .nil => .nil
  | _, _, .cons a b => .cons (Dd.ext s a) (DdAll.ext s b)
end
/-- what repr asks -/
def ReprOk (d : PyData) : Prop := d.showable = true ∧ d.depth ≤ 60 ∧ d.shown.length ≤ sizeLine
theorem ReprOk.of {n c : Nat} {d : PyData} (h : Sh n c d) (hn : n ≤ 60) (hc : c ≤ sizeLine) : ReprOk d := ⟨h.1, Nat.le_trans h.2.1 hn, Nat.le_trans h.2.2 hc⟩
theorem ReprOk.row {r : List Int} (h : ∀ n ∈ r, 0 ≤ n ∧ n < 2 ^ 250) (hl : r.length ≤ 40) : ReprOk (rowDt r) := .of (Sh.row h hl) (by decide) (by decide)
theorem ReprOk.bool (b : Bool) : ReprOk (.bool b) := .of (Sh.bool b) (by decide) (by decide)
theorem ReprOk.word {x : Str} (h : (reprText x).length ≤ 1000) : ReprOk (.str x) := .of (Sh.str x h) (by decide) (by decide)
theorem Dd.row {H : Hp} {a : Addr} {r : List Int} (e : H a = some (.tup (r.map V.int))) : Dd H (.ref a) (rowDt r) := .tup e (ddIntsG r)
/-- repr's rule at hand -/
abbrev rRepr : List V → Hp → VK → Prop := fun xs H Q => ∃ x d, xs = [x] ∧ Dd H x d ∧ d.showable = true ∧ d.depth ≤ 60 ∧ d.shown.length ≤ sizeLine ∧ Q (.str d.shown) H
end MG

/-! MJe: data whose ints are small, its repr bounded; the heap without what is changed -/
namespace MG
open PySem PySem.Spec PyProof.Rows L2
mutual
/-- every int in it is small -/
def sm : PyData → Bool
  | .int i => decide (i ≤ 1000)
  | .tuple ds => smA ds
  | .list ds => smA ds
  | _ => true
def smA : List PyData → Bool
  | [] => true
  | d :: ds => sm d && smA ds
end
theorem smA_of : ∀ {ds : List PyData}, (∀ d ∈ ds, sm d = true) → smA ds = true
  | [], _ => rfl
  | d :: ds, h => by
    rw [smA, h d List.mem_cons_self, smA_of fun e he => h e (List.mem_cons_of_mem _ he)]
    rfl
theorem smA_get : ∀ {ds : List PyData}, smA ds = true → ∀ d ∈ ds, sm d = true
  | d :: ds, h, e, he => by
    rw [smA, Bool.and_eq_true] at h
    rcases List.mem_cons.mp he with rfl | he
    · exact h.1
    · exact smA_get h.2 e he
/-- v is data in H: at most n deep, its repr at most c signs, its ints small -/
def Db (H : Hp) (n c : Nat) (v : V) : Prop := ∃ d, Dd H v d ∧ d.showable = true ∧ d.depth ≤ n ∧ d.shown.length ≤ c ∧ sm d = true
theorem Db.same {H H' : Hp} {n c : Nat} {v : V} (s : Same H H') (h : Db H n c v) : Db H' n c v := by
  obtain ⟨d, a, b⟩ := h
  exact ⟨d, a.same s, b⟩
theorem Db.le {H : Hp} {n c n' c' : Nat} {v : V} (h : Db H n c v) (hn : n ≤ n') (hc : c ≤ c') : Db H n' c' v := by
  obtain ⟨d, a, b, e, f, g⟩ := h
  exact ⟨d, a, b, Nat.le_trans e hn, Nat.le_trans f hc, g⟩
theorem Db.non {H : Hp} : Db H 0 400 .non := ⟨.none, .non, rfl, Nat.le_refl _, by decide +kernel, rfl⟩
theorem Db.bl {H : Hp} (b : Bool) : Db H 0 400 (.bl b) := ⟨.bool b, .bl b, rfl, Nat.le_refl _, by cases b <;> decide +kernel, rfl⟩
theorem Db.int {H : Hp} {i : Int} (h : i.natAbs ≤ 1000) : Db H 0 400 (.int i) := by
  obtain ⟨d, a, b, e, f⟩ := Da.int (H := H) (i := i) (Nat.lt_of_le_of_lt h (by decide))
  cases a
  exact ⟨_, .int i, b, e, Nat.le_trans f (by decide), decide_eq_true (by omega)⟩
theorem Db.str {H : Hp} (x : Str) (h : (reprText x).length ≤ 400) : Db H 0 400 (.str x) := ⟨.str x, .str x, rfl, Nat.le_refl _, h, rfl⟩
theorem dbs {H : Hp} {n c : Nat} : ∀ {xs : List V}, (∀ x ∈ xs, Db H n c x) →
    ∃ ds, DdAll H xs ds ∧ PyData.showableAll ds = true ∧ PyData.depthAll ds ≤ n ∧ piled (PyData.shownAll ds) ≤ xs.length * (c + 2) ∧ smA ds = true
  | [], _ => ⟨[], .nil, rfl, Nat.zero_le _, by rw [PyData.shownAll, piled_nil]; exact Nat.zero_le _, rfl⟩
  | x :: xs, h => by
    obtain ⟨d, a, b, e, f, g⟩ := h x List.mem_cons_self
    obtain ⟨ds, a2, b2, e2, f2, g2⟩ := dbs (xs := xs) fun y hy => h y (List.mem_cons_of_mem _ hy)
    refine ⟨d :: ds, .cons a a2, ?_, ?_, ?_, ?_⟩
    · rw [PyData.showableAll, b, b2]; rfl
    · rw [PyData.depthAll]; exact Nat.max_le.mpr ⟨e, e2⟩
    · rw [PyData.shownAll, piled_cons, List.length_cons, Nat.add_mul, Nat.one_mul]
      omega
    · rw [smA, g, g2]; rfl
theorem Db.tup {H : Hp} {n c m : Nat} {a : Addr} {xs : List V} (e : H a = some (.tup xs)) (h : ∀ x ∈ xs, Db H n c x) (hm : xs.length ≤ m) :
    Db H (n + 1) (m * (c + 2) + 3) (.ref a) := by
  obtain ⟨ds, a1, b1, e1, f1, g1⟩ := dbs h
  refine ⟨.tuple ds, .tup e a1, b1, Nat.succ_le_succ e1, ?_, g1⟩
  have h1 := tupleText_le (PyData.shownAll ds)
  have h2 : xs.length * (c + 2) ≤ m * (c + 2) := Nat.mul_le_mul_right _ hm
  show (tupleText (PyData.shownAll ds)).length ≤ _
  omega
theorem Db.lst {H : Hp} {n c m : Nat} {a : Addr} {xs : List V} (e : H a = some (.lst xs)) (h : ∀ x ∈ xs, Db H n c x) (hm : xs.length ≤ m) :
    Db H (n + 1) (m * (c + 2) + 3) (.ref a) := by
  obtain ⟨ds, a1, b1, e1, f1, g1⟩ := dbs h
  refine ⟨.list ds, .lst e a1, b1, Nat.succ_le_succ e1, ?_, g1⟩
  have h1 := listText_le (PyData.shownAll ds)
  have h2 : xs.length * (c + 2) ≤ m * (c + 2) := Nat.mul_le_mul_right _ hm
  show (listText (PyData.shownAll ds)).length ≤ _
  omega
theorem Db.dic0 {H : Hp} {a : Addr} (e : H a = some (.dK [])) : Db H 1 400 (.ref a) :=
  ⟨.dict [], .dic e .nil, rfl, by decide, by decide +kernel, rfl⟩
/-- the heap without what is changed -/
def rmT (S : List Addr) (H : Hp) : Hp := fun a => if a ∈ S then none else H a
theorem rmT_at {S : List Addr} {H : Hp} {a : Addr} (h : a ∉ S) : rmT S H a = H a := if_neg h
theorem rmT_same (S : List Addr) (H : Hp) : Same (rmT S H) H := fun a o e => by
  unfold rmT at e
  by_cases h : a ∈ S
  · rw [if_pos h] at e; cases e
  · rw [if_neg h] at e; exact e
/-- all but what is in S stays -/
def SO (S : List Addr) (H H' : Hp) : Prop := ∀ a o, a ∉ S → H a = some o → H' a = some o
theorem SO.refl (S : List Addr) (H : Hp) : SO S H H := fun _ _ _ h => h
theorem SO.trans {S : List Addr} {H H1 H2 : Hp} (x : SO S H H1) (y : SO S H1 H2) : SO S H H2 := fun a o n h => y a o n (x a o n h)
theorem SO.of {S : List Addr} {H H' : Hp} (h : Same H H') : SO S H H' := fun a o _ e => h a o e
theorem SO.rm {S : List Addr} {H H' : Hp} (x : SO S H H') : Same (rmT S H) (rmT S H') := fun a o e => by
  unfold rmT at e ⊢
  by_cases h : a ∈ S
  · rw [if_pos h] at e; cases e
  · rw [if_neg h] at e ⊢
    exact x a o h e
end MG

/-! MKa: the order of 2 by an odd number: what the program's parting into primes finds. Pure mathematics. -/
namespace Rn
/-- a prime -/
def Pr (p : Nat) : Prop := 2 ≤ p ∧ ∀ d, d ∣ p → d = 1 ∨ d = p
theorem Pr.two {p : Nat} (h : Pr p) : 2 ≤ p := h.1
theorem Pr.pos {p : Nat} (h : Pr p) : 0 < p := by have := h.1; omega
/-- every number from 2 on has a prime part -/
theorem exists_pr {n : Nat} (h : 2 ≤ n) : ∃ p, Pr p ∧ p ∣ n := by
  induction n using Nat.strongRecOn with
  | ind n ih =>
    by_cases hp : Pr n
    · exact ⟨n, hp, Nat.dvd_refl n⟩
    · have : ∃ d, d ∣ n ∧ d ≠ 1 ∧ d ≠ n := by
        refine Classical.byContradiction fun z => hp ⟨h, fun d hd => ?_⟩
        by_cases h1 : d = 1
        · exact .inl h1
        · by_cases h2 : d = n
          · exact .inr h2
          · exact (z ⟨d, hd, h1, h2⟩).elim
      obtain ⟨d, hd, h1, h2⟩ := this
      have hle := Nat.le_of_dvd (by omega) hd
      have h0 : d ≠ 0 := fun z => by rw [z] at hd; have := Nat.eq_zero_of_zero_dvd hd; omega
      obtain ⟨p, hp, hpd⟩ := ih d (by omega) (by omega)
      exact ⟨p, hp, Nat.dvd_trans hpd hd⟩
theorem Pr.coprime {p n : Nat} (h : Pr p) (hn : ¬ p ∣ n) : Nat.gcd p n = 1 := by
  rcases h.2 _ (Nat.gcd_dvd_left p n) with z | z
  · exact z
  · exact (hn (by rw [← z]; exact Nat.gcd_dvd_right p n)).elim
theorem Pr.dvd_mul {p a b : Nat} (h : Pr p) (hd : p ∣ a * b) : p ∣ a ∨ p ∣ b := by
  by_cases ha : p ∣ a
  · exact .inl ha
  · exact .inr (Nat.Coprime.dvd_of_dvd_mul_left (h.coprime ha) hd)
theorem Pr.dvd_pow {p a n : Nat} (h : Pr p) (hd : p ∣ a ^ n) : p ∣ a := by
  induction n with
  | zero =>
    rw [Nat.pow_zero] at hd
    have := Nat.le_of_dvd (by decide) hd
    have := h.1
    omega
  | succ n ih =>
    rw [Nat.pow_succ] at hd
    rcases h.dvd_mul hd with z | z
    · exact ih z
    · exact z
theorem Pr.eq_of_dvd {p q : Nat} (h : Pr p) (hq : Pr q) (hd : p ∣ q) : p = q := by
  rcases hq.2 p hd with z | z
  · have := h.1; omega
  · exact z
/-- 2 to so many, less 1 -/
def Mo (m : Nat) : Nat := 2 ^ m - 1
theorem mo_pos (m : Nat) : 1 ≤ 2 ^ m := Nat.one_le_two_pow
theorem pow_sub_dvd (x : Nat) (hx : 1 ≤ x) (n : Nat) : x - 1 ∣ x ^ n - 1 := by
  induction n with
  | zero => exact ⟨0, by simp⟩
  | succ n ih =>
    obtain ⟨c, hc⟩ := ih
    have h1 : 1 ≤ x ^ n := Nat.one_le_pow _ _ (by omega)
    refine ⟨c * x + 1, ?_⟩
    have e : x ^ n = (x - 1) * c + 1 := by omega
    rw [Nat.pow_succ, e]
    obtain ⟨y, rfl⟩ : ∃ y, x = y + 1 := ⟨x - 1, by omega⟩
    simp only [Nat.add_sub_cancel]
    have : (y * c + 1) * (y + 1) = y * (c * (y + 1) + 1) + 1 := by grind
    omega
theorem mo_dvd {a b : Nat} (h : a ∣ b) : Mo a ∣ Mo b := by
  obtain ⟨c, rfl⟩ := h
  unfold Mo
  rw [Nat.pow_mul]
  exact pow_sub_dvd _ Nat.one_le_two_pow c
/-- 1 + x + .. -/
def geo (x : Nat) : Nat → Nat
  | 0 => 0
  | n + 1 => geo x n + x ^ n
theorem geo_mul (y n : Nat) : (y + 1) ^ n = y * geo (y + 1) n + 1 := by
  induction n with
  | zero => rfl
  | succ n ih =>
    rw [geo, Nat.pow_succ]
    have : (y + 1) ^ n * (y + 1) = y * (y + 1) ^ n + (y + 1) ^ n := by grind
    have h2 : y * (geo (y + 1) n + (y + 1) ^ n) = y * geo (y + 1) n + y * (y + 1) ^ n := Nat.mul_add _ _ _
    omega
theorem geo_mod (p y n : Nat) (h : p ∣ y) : ∃ c, geo (y + 1) n = n + p * c := by
  obtain ⟨z, rfl⟩ := h
  induction n with
  | zero => exact ⟨0, rfl⟩
  | succ n ih =>
    obtain ⟨c, hc⟩ := ih
    refine ⟨c + z * geo (p * z + 1) n, ?_⟩
    rw [geo, geo_mul, hc]
    grind
/-- one more of a prime -/
theorem lift {p k m : Nat} (hk : 1 ≤ k) (h : p ^ k ∣ Mo m) : p ^ (k + 1) ∣ Mo (m * p) := by
  unfold Mo at h ⊢
  have h1 := mo_pos m
  obtain ⟨y, hy⟩ : ∃ y, 2 ^ m = y + 1 := ⟨2 ^ m - 1, by omega⟩
  rw [Nat.pow_mul, hy, geo_mul, Nat.add_sub_cancel]
  rw [hy, Nat.add_sub_cancel] at h
  have hp : p ∣ y := Nat.dvd_trans ⟨p ^ (k - 1), by rw [← Nat.pow_succ', Nat.succ_eq_add_one, show k - 1 + 1 = k by omega]⟩ h
  obtain ⟨c, hc⟩ := geo_mod p y p hp
  rw [hc, show p + p * c = p * (1 + c) by grind]
  obtain ⟨z, rfl⟩ := h
  exact ⟨z * (1 + c), by rw [Nat.pow_succ]; grind⟩
/-- how many ways to take k of n -/
def ch : Nat → Nat → Nat
  | _, 0 => 1
  | 0, _ + 1 => 0
  | n + 1, k + 1 => ch n k + ch n (k + 1)
theorem ch_mul (n k : Nat) : (k + 1) * ch (n + 1) (k + 1) = (n + 1) * ch n k := by
  induction n generalizing k with
  | zero =>
    cases k with
    | zero => rfl
    | succ k => show (k + 2) * (ch 0 (k + 1) + ch 0 (k + 2)) = 1 * ch 0 (k + 1); rw [ch, ch]; rfl
  | succ n ih =>
    cases k with
    | zero =>
      have := ih 0
      rw [show ch n 0 = 1 from by cases n <;> rw [ch]] at this
      show 1 * (ch (n + 1) 0 + ch (n + 1) 1) = (n + 2) * ch (n + 1) 0
      rw [show ch (n + 1) 0 = 1 from by rw [ch]]
      rw [Nat.zero_add, Nat.one_mul, Nat.mul_one] at this
      omega
    | succ k =>
      have h1 := ih k
      have h2 := ih (k + 1)
      show (k + 2) * (ch (n + 1) (k + 1) + ch (n + 1) (k + 2)) = (n + 2) * ch (n + 1) (k + 1)
      have h3 : ch (n + 1) (k + 1) = ch n k + ch n (k + 1) := by rw [ch]
      have : (n + 1) * ch (n + 1) (k + 1) = (n + 1) * ch n k + (n + 1) * ch n (k + 1) := by rw [h3, Nat.mul_add]
      grind
theorem ch_over {n k : Nat} (h : n < k) : ch n k = 0 := by
  induction n generalizing k with
  | zero =>
    cases k with
    | zero => omega
    | succ k => rw [ch]
  | succ n ih =>
    cases k with
    | zero => omega
    | succ k => rw [ch, ih (by omega), ih (by omega)]
/-- the first m of a row together -/
def row (n : Nat) : Nat → Nat
  | 0 => 0
  | m + 1 => row n m + ch n m
theorem row_succ (n m : Nat) : row (n + 1) (m + 1) = row n m + row n (m + 1) := by
  induction m with
  | zero =>
    show row (n + 1) 0 + ch (n + 1) 0 = row n 0 + (row n 0 + ch n 0)
    rw [show ch (n + 1) 0 = 1 by rw [ch], show ch n 0 = 1 by cases n <;> rw [ch]]
    rfl
  | succ m ih =>
    rw [row, ih]
    show row n m + row n (m + 1) + ch (n + 1) (m + 1) = row n (m + 1) + (row n (m + 1) + ch n (m + 1))
    rw [ch, row]
    omega
theorem row_pow (n : Nat) : row n (n + 1) = 2 ^ n := by
  induction n with
  | zero => rfl
  | succ n ih =>
    rw [row_succ, ih, row, ih, ch_over (by omega), Nat.pow_succ]
    omega
theorem row_mod {p : Nat} (h : Pr p) {m : Nat} (hm : 1 ≤ m) (hm2 : m ≤ p) : ∃ c, row p m = 1 + p * c := by
  induction m with
  | zero => omega
  | succ m ih =>
    by_cases h0 : m = 0
    · subst h0
      refine ⟨0, ?_⟩
      show row p 0 + ch p 0 = _
      rw [show ch p 0 = 1 by cases p <;> rw [ch]]
      rfl
    · obtain ⟨c, hc⟩ := ih (by omega) (by omega)
      obtain ⟨j, rfl⟩ : ∃ j, m = j + 1 := ⟨m - 1, by omega⟩
      obtain ⟨q, rfl⟩ : ∃ q, p = q + 1 := ⟨p - 1, by have := h.1; omega⟩
      have e := ch_mul q j
      have hd : q + 1 ∣ (j + 1) * ch (q + 1) (j + 1) := ⟨_, e⟩
      rcases h.dvd_mul hd with z | z
      · have := Nat.le_of_dvd (by omega) z
        omega
      · obtain ⟨d, hd⟩ := z
        exact ⟨c + d, by rw [row, hc, hd]; grind⟩
/-- Fermat, of 2 -/
theorem fermat {p : Nat} (h : Pr p) (h2 : p ≠ 2) : p ∣ Mo (p - 1) := by
  obtain ⟨c, hc⟩ := row_mod h (m := p) (by have := h.1; omega) (Nat.le_refl p)
  have e := row_pow p
  rw [row, hc] at e
  have e1 : ch p p = 1 := by
    have : ∀ n, ch n n = 1 := by
      intro n
      induction n with
      | zero => rfl
      | succ n ih => rw [ch, ih, ch_over (by omega)]
    exact this p
  rw [e1] at e
  obtain ⟨q, rfl⟩ : ∃ q, p = q + 1 := ⟨p - 1, by have := h.1; omega⟩
  unfold Mo
  rw [Nat.add_sub_cancel]
  have h3 := mo_pos q
  have : q + 1 ∣ 2 * (2 ^ q - 1) := ⟨c, by rw [Nat.pow_succ] at e; omega⟩
  rcases h.dvd_mul this with z | z
  · have := Nat.le_of_dvd (by decide) z
    have := h.1
    omega
  · exact z
theorem euler_pow {p : Nat} (h : Pr p) (h2 : p ≠ 2) (k : Nat) : p ^ (k + 1) ∣ Mo ((p - 1) * p ^ k) := by
  induction k with
  | zero => rw [Nat.pow_zero, Nat.mul_one, Nat.zero_add, Nat.pow_one]; exact fermat h h2
  | succ k ih =>
    have := lift (by omega) ih
    rwa [Nat.mul_assoc, ← Nat.pow_succ] at this
/-- all of a prime taken out -/
theorem take_out {p n : Nat} (h : 2 ≤ p) (hn : 0 < n) : ∃ f m, n = p ^ f * m ∧ ¬ p ∣ m ∧ 0 < m := by
  induction n using Nat.strongRecOn with
  | ind n ih =>
    by_cases hd : p ∣ n
    · obtain ⟨c, rfl⟩ := hd
      have c0 : 0 < c := Nat.pos_of_mul_pos_left hn |> fun z => by
        rcases Nat.eq_zero_or_pos c with y | y
        · rw [y, Nat.mul_zero] at hn; omega
        · exact y
      have lt : c < p * c := by
        have : 2 * c ≤ p * c := Nat.mul_le_mul_right c h
        omega
      obtain ⟨f, m, e, nd, m0⟩ := ih c lt c0
      exact ⟨f + 1, m, by rw [e, Nat.pow_succ]; grind, nd, m0⟩
    · exact ⟨0, n, by rw [Nat.pow_zero, Nat.one_mul], hd, hn⟩
/-- the number's own way: for each prime, parted by it, times one less -/
def tot (many : Nat) : List Nat → Nat
  | [] => many
  | p :: ps => tot (many / p * (p - 1)) ps
theorem tot_mo : ∀ (ps : List Nat) (A R : Nat), 0 < A → 0 < R → (∀ p ∈ ps, Pr p ∧ p ∣ R ∧ p ≠ 2) → ps.Nodup → (∀ p, Pr p → p ∣ R → p ∈ ps) →
    ∃ B, tot (A * R) ps = A * B ∧ 0 < B ∧ R ∣ Mo B
  | [], A, R, hA, hR, _, _, all => by
    have : R = 1 := by
      refine Classical.byContradiction fun z => ?_
      obtain ⟨p, hp, hd⟩ := exists_pr (n := R) (by omega)
      exact List.not_mem_nil (all p hp hd)
    subst this
    exact ⟨1, rfl, by decide, Nat.one_dvd _⟩
  | q :: ps, A, R, hA, hR, hps, nd, all => by
    obtain ⟨hq, hqR, q2⟩ := hps q List.mem_cons_self
    obtain ⟨f, R', e, nq, R0⟩ := take_out (p := q) (n := R) hq.1 hR
    have f1 : 1 ≤ f := by
      rcases Nat.eq_zero_or_pos f with z | z
      · rw [z, Nat.pow_zero, Nat.one_mul] at e
        rw [e] at hqR
        exact (nq hqR).elim
      · exact z
    obtain ⟨g, rfl⟩ : ∃ g, f = g + 1 := ⟨f - 1, by omega⟩
    subst e
    have nd' := List.nodup_cons.mp nd
    have q0 : 0 < q := hq.pos
    have qg : 0 < q ^ g := Nat.pow_pos q0
    have hA' : 0 < A * (q ^ g * (q - 1)) := Nat.mul_pos hA (Nat.mul_pos qg (by have := hq.1; omega))
    obtain ⟨B, eB, B0, dB⟩ := tot_mo ps (A * (q ^ g * (q - 1))) R' hA' R0 (fun p hp => by
        obtain ⟨a, b, c⟩ := hps p (List.mem_cons_of_mem _ hp)
        refine ⟨a, ?_, c⟩
        rcases a.dvd_mul b with z | z
        · have := a.eq_of_dvd hq (a.dvd_pow z)
          subst this
          exact (nd'.1 hp).elim
        · exact z) nd'.2 (fun p hp hd => by
        have := all p hp (Nat.dvd_trans hd (Nat.dvd_mul_left _ _))
        rcases List.mem_cons.mp this with z | z
        · rw [z] at hd; exact (nq hd).elim
        · exact z)
    have step : A * (q ^ (g + 1) * R') / q * (q - 1) = A * (q ^ g * (q - 1)) * R' := by
      rw [show A * (q ^ (g + 1) * R') = q * (A * (q ^ g * R')) by rw [Nat.pow_succ]; grind, Nat.mul_div_cancel_left _ q0]
      grind
    refine ⟨q ^ g * (q - 1) * B, ?_, Nat.mul_pos (Nat.mul_pos qg (by have := hq.1; omega)) B0, ?_⟩
    · rw [tot, step, eB]
      grind
    · have d1 : q ^ (g + 1) ∣ Mo (q ^ g * (q - 1) * B) := Nat.dvd_trans (euler_pow hq q2 g) (mo_dvd ⟨B, by grind⟩)
      have d2 : R' ∣ Mo (q ^ g * (q - 1) * B) := Nat.dvd_trans dB (mo_dvd ⟨q ^ g * (q - 1), by grind⟩)
      exact Nat.Coprime.mul_dvd_of_dvd_of_dvd (Nat.Coprime.pow_left _ (hq.coprime nq)) d1 d2
/-- the least number of doublings that give 1 by rests -/
def Ord (w t : Nat) : Prop := 0 < t ∧ w ∣ Mo t ∧ ∀ d, 0 < d → w ∣ Mo d → t ≤ d
theorem mo_sub {a b : Nat} (h : b ≤ a) : Mo a = 2 ^ b * Mo (a - b) + Mo b := by
  unfold Mo
  have := mo_pos (a - b)
  have := mo_pos b
  have e : 2 ^ a = 2 ^ b * 2 ^ (a - b) := by rw [← Nat.pow_add, show b + (a - b) = a by omega]
  have : 2 ^ b * (2 ^ (a - b) - 1) = 2 ^ b * 2 ^ (a - b) - 2 ^ b := by rw [Nat.mul_sub, Nat.mul_one]
  have : 2 ^ b ≤ 2 ^ b * 2 ^ (a - b) := Nat.le_mul_of_pos_right _ (by omega)
  omega
theorem odd_cop {w : Nat} (h : w % 2 = 1) (n : Nat) : Nat.gcd w (2 ^ n) = 1 := by
  have : Nat.gcd w 2 = 1 := by
    rw [Nat.gcd_comm, Nat.gcd_rec, h]
    rfl
  exact Nat.Coprime.pow_right n this
theorem Ord.dvd {w t d : Nat} (odd : w % 2 = 1) (h : Ord w t) (hd : w ∣ Mo d) : t ∣ d := by
  obtain ⟨t0, ht, least⟩ := h
  induction d using Nat.strongRecOn with
  | ind d ih =>
    rcases Nat.eq_zero_or_pos d with z | d0
    · rw [z]; exact Nat.dvd_zero t
    have le := least d d0 hd
    have e := mo_sub le
    have : w ∣ 2 ^ t * Mo (d - t) := (Nat.dvd_add_iff_left ht).mpr (by rw [← e]; exact hd)
    have := Nat.Coprime.dvd_of_dvd_mul_left (odd_cop odd t) this
    have := ih (d - t) (by omega) this
    have h2 := Nat.dvd_add this (Nat.dvd_refl t)
    rwa [Nat.sub_add_cancel le] at h2
/-- a number that gives 1, and no part of it by a prime does -/
theorem Ord.of {w t : Nat} (odd : w % 2 = 1) (t0 : 0 < t) (ht : w ∣ Mo t) (no : ∀ q, Pr q → q ∣ t → ¬ w ∣ Mo (t / q)) : Ord w t := by
  have ex : ∃ d, 0 < d ∧ w ∣ Mo d ∧ ∀ e, 0 < e → w ∣ Mo e → d ≤ e := by
    have : ∀ n, (∃ d, d ≤ n ∧ 0 < d ∧ w ∣ Mo d) → ∃ d, 0 < d ∧ w ∣ Mo d ∧ ∀ e, 0 < e → w ∣ Mo e → d ≤ e := by
      intro n
      induction n with
      | zero => rintro ⟨d, a, b, _⟩; omega
      | succ n ih =>
        rintro ⟨d, a, b, c⟩
        by_cases h : ∃ d, d ≤ n ∧ 0 < d ∧ w ∣ Mo d
        · exact ih h
        · refine ⟨d, b, c, fun e e0 he => ?_⟩
          refine Classical.byContradiction fun z => h ⟨e, by omega, e0, he⟩
    exact this t ⟨t, Nat.le_refl t, t0, ht⟩
  obtain ⟨d, o⟩ := ex
  have od : Ord w d := o
  obtain ⟨c, hc⟩ := od.dvd odd ht
  by_cases h1 : c = 1
  · rw [hc, h1, Nat.mul_one]; exact od
  · have c0 : c ≠ 0 := fun z => by rw [z, Nat.mul_zero] at hc; omega
    obtain ⟨q, hq, hqc⟩ := exists_pr (n := c) (by omega)
    obtain ⟨m, rfl⟩ := hqc
    have e : t / q = d * m := by
      rw [hc, show d * (q * m) = q * (d * m) by grind, Nat.mul_div_cancel_left _ hq.pos]
    refine (no q hq ⟨d * m, by rw [hc]; grind⟩ ?_).elim
    rw [e]
    exact Nat.dvd_trans o.2.1 (mo_dvd ⟨m, rfl⟩)
theorem mo_iff {w m : Nat} (hw : 2 ≤ w) : w ∣ Mo m ↔ 2 ^ m % w = 1 := by
  unfold Mo
  have := mo_pos m
  constructor
  · rintro ⟨c, hc⟩
    rw [show 2 ^ m = 1 + w * c by omega, Nat.add_mul_mod_self_left, Nat.mod_eq_of_lt (by omega)]
  · intro h
    have := Nat.div_add_mod (2 ^ m) w
    exact ⟨2 ^ m / w, by omega⟩
/-- `ps` are just the primes of n -/
def Prs (n : Nat) (ps : List Nat) : Prop := ps.Nodup ∧ ∀ p, p ∈ ps ↔ Pr p ∧ p ∣ n
theorem Prs.mo {w : Nat} {ps : List Nat} (h : Prs w ps) (odd : w % 2 = 1) : 0 < tot w ps ∧ w ∣ Mo (tot w ps) := by
  obtain ⟨B, e, B0, d⟩ := tot_mo ps 1 w (by decide) (by omega) (fun p hp => ⟨((h.2 p).mp hp).1, ((h.2 p).mp hp).2, fun z => by
    have := ((h.2 p).mp hp).2
    rw [z] at this
    omega⟩) h.1 fun p a b => (h.2 p).mpr ⟨a, b⟩
  rw [Nat.one_mul, Nat.one_mul] at e
  rw [e]
  exact ⟨B0, d⟩
end Rn

/-! MKb: the program's loops in the ring: primes taken out, doublings to one, the ring of two. Pure mathematics. -/
namespace Rn
/-- where the search for primes stands -/
structure PI (n0 : Nat) (ps : List Nat) (q n : Nat) : Prop where
  pos : 0 < n
  dv : n ∣ n0
  q2 : 2 ≤ q
  odd : q = 2 ∨ q % 2 = 1
  no : ∀ d, 2 ≤ d → d < q → ¬ d ∣ n
  all : ∀ p, Pr p → (p ∣ n0 ↔ p ∈ ps ∨ p ∣ n)
  pr : ∀ p ∈ ps, Pr p ∧ p < q
  nd : ps.Nodup
theorem PI.start {n : Nat} (h : 0 < n) : PI n [] 2 n := ⟨h, Nat.dvd_refl n, Nat.le_refl 2, .inl rfl, fun d a b => by omega, fun p _ => ⟨.inr, fun z => z.elim (fun y => nomatch y) id⟩, (fun p hp => nomatch hp), List.nodup_nil⟩
theorem PI.prime {n0 q n : Nat} {ps : List Nat} (I : PI n0 ps q n) (h : q ∣ n) : Pr q := by
  refine ⟨I.q2, fun d hd => ?_⟩
  have hle := Nat.le_of_dvd (by have := I.q2; omega) hd
  have d0 : d ≠ 0 := fun z => by rw [z] at hd; have := Nat.eq_zero_of_zero_dvd hd; have := I.q2; omega
  by_cases h1 : d = 1
  · exact .inl h1
  · by_cases h2 : d = q
    · exact .inr h2
    · exact (I.no d (by omega) (by omega) (Nat.dvd_trans hd h)).elim
theorem pr_one {p : Nat} (h : Pr p) : ¬ p ∣ 1 := fun z => by have := Nat.le_of_dvd (by decide) z; have := h.1; omega
theorem Pr.not_dvd_pow {p q f : Nat} (h : Pr p) (hq : Pr q) (ne : p ≠ q) : ¬ p ∣ q ^ f := fun z => ne (h.eq_of_dvd hq (h.dvd_pow z))
/-- taking one prime out: where it stands within -/
structure PO (q n m : Nat) : Prop where
  m0 : 0 < m
  ex : ∃ f, n = q ^ f * m
theorem PO.start {q n : Nat} (h : 0 < n) : PO q n n := ⟨h, 0, by rw [Nat.pow_zero, Nat.one_mul]⟩
theorem PO.step {q n m : Nat} (h : PO q n m) (hd : m % q = 0) (q2 : 2 ≤ q) : PO q n (m / q) ∧ m / q < m := by
  obtain ⟨m0, f, e⟩ := h
  obtain ⟨c, rfl⟩ := Nat.dvd_of_mod_eq_zero hd
  rw [Nat.mul_div_cancel_left _ (by omega)]
  have c0 : 0 < c := by
    rcases Nat.eq_zero_or_pos c with z | z
    · rw [z, Nat.mul_zero] at m0; omega
    · exact z
  refine ⟨⟨c0, f + 1, by rw [e, Nat.pow_succ]; grind⟩, ?_⟩
  have : 2 * c ≤ q * c := Nat.mul_le_mul_right c q2
  omega
/-- one place of the search further -/
theorem PI.step {n0 q n m : Nat} {ps : List Nat} (I : PI n0 ps q n) (O : PO q n m) (hm : ¬ m % q = 0) :
    PI n0 (if n % q = 0 then ps ++ [q] else ps) (q + if q = 2 then 1 else 2) m := by
  obtain ⟨m0, f, e⟩ := O
  have nq : ¬ q ∣ m := fun z => hm (Nat.mod_eq_zero_of_dvd z)
  have dm : m ∣ n := ⟨q ^ f, by rw [e, Nat.mul_comm]⟩
  have hq := I.q2
  have odd' : (q + if q = 2 then 1 else 2) % 2 = 1 := by
    split
    · omega
    · have := I.odd; omega
  have lt : q < q + if q = 2 then 1 else 2 := by split <;> omega
  refine ⟨m0, Nat.dvd_trans dm I.dv, by omega, .inr odd', fun d d2 dlt hd => ?_, fun p hp => ?_, fun p hp => ?_, ?_⟩
  · by_cases h1 : d < q
    · exact I.no d d2 h1 (Nat.dvd_trans hd dm)
    · by_cases h2 : d = q
      · rw [h2] at hd; exact nq hd
      · have hq2 : q ≠ 2 := fun z => by rw [if_pos z] at dlt; omega
        rw [if_neg hq2] at dlt
        have := I.odd
        exact I.no 2 (by decide) (by omega) (Nat.dvd_trans (Nat.dvd_trans ⟨d / 2, by omega⟩ hd) dm)
  · rw [I.all p hp]
    have key : p ∣ n ↔ (p = q ∧ q ∣ n) ∨ p ∣ m := by
      constructor
      · intro z
        by_cases hpq : p = q
        · exact .inl ⟨hpq, hpq ▸ z⟩
        · rw [e] at z
          rcases hp.dvd_mul z with y | y
          · by_cases hf : f = 0
            · rw [hf, Nat.pow_zero] at y; exact (pr_one hp y).elim
            · have hqn : q ∣ n := by rw [e]; exact Nat.dvd_trans ⟨q ^ (f - 1), by rw [← Nat.pow_succ', Nat.succ_eq_add_one, show f - 1 + 1 = f by omega]⟩ (Nat.dvd_mul_right _ _)
              exact (hp.not_dvd_pow (I.prime hqn) hpq y).elim
          · exact .inr y
      · rintro (⟨rfl, y⟩ | y)
        · exact y
        · exact Nat.dvd_trans y dm
    rw [key]
    by_cases hn : n % q = 0
    · rw [if_pos hn, List.mem_append, List.mem_singleton]
      have := Nat.dvd_of_mod_eq_zero hn
      constructor
      · rintro (a | ⟨a, _⟩ | a)
        · exact .inl (.inl a)
        · exact .inl (.inr a)
        · exact .inr a
      · rintro ((a | a) | a)
        · exact .inl a
        · exact .inr (.inl ⟨a, this⟩)
        · exact .inr (.inr a)
    · rw [if_neg hn]
      constructor
      · rintro (a | ⟨_, a⟩ | a)
        · exact .inl a
        · exact (hn (Nat.mod_eq_zero_of_dvd a)).elim
        · exact .inr a
      · rintro (a | a)
        · exact .inl a
        · exact .inr (.inr a)
  · by_cases hn : n % q = 0
    · rw [if_pos hn] at hp
      rcases List.mem_append.mp hp with h | h
      · exact ⟨(I.pr p h).1, by have := (I.pr p h).2; omega⟩
      · rw [List.mem_singleton] at h
        subst h
        exact ⟨I.prime (Nat.dvd_of_mod_eq_zero hn), lt⟩
    · rw [if_neg hn] at hp
      exact ⟨(I.pr p hp).1, by have := (I.pr p hp).2; omega⟩
  · by_cases hn : n % q = 0
    · rw [if_pos hn]
      refine List.nodup_append.mpr ⟨I.nd, by simp, fun a ha b hb => ?_⟩
      rw [List.mem_singleton] at hb
      have := (I.pr a ha).2
      omega
    · rw [if_neg hn]; exact I.nd
/-- the end of the search -/
theorem PI.fin {n0 q n : Nat} {ps : List Nat} (I : PI n0 ps q n) (h : ¬ q * q ≤ n) : Prs n0 (if 1 < n then ps ++ [n] else ps) := by
  by_cases h1 : 1 < n
  · rw [if_pos h1]
    have hn : Pr n := by
      obtain ⟨p, hp, hd⟩ := exists_pr (n := n) (by omega)
      obtain ⟨m, e⟩ := hd
      have hpq : q ≤ p := by
        refine Classical.byContradiction fun z => I.no p hp.1 (by omega) ⟨m, e⟩
      by_cases hm : m = 1
      · rw [e, hm, Nat.mul_one]; exact hp
      · have m0 : m ≠ 0 := fun z => by rw [z, Nat.mul_zero] at e; omega
        obtain ⟨r, hr, hrd⟩ := exists_pr (n := m) (by omega)
        have hrq : q ≤ r := by
          refine Classical.byContradiction fun z => I.no r hr.1 (by omega) (Nat.dvd_trans hrd ⟨p, by rw [e, Nat.mul_comm]⟩)
        have hrm := Nat.le_of_dvd (by omega) hrd
        have : q * q ≤ p * m := Nat.mul_le_mul hpq (by omega)
        omega
    refine ⟨List.nodup_append.mpr ⟨I.nd, by simp, fun a ha b hb => ?_⟩, fun p => ?_⟩
    · rw [List.mem_singleton] at hb
      subst hb
      intro z
      have ha' := I.pr a ha
      exact I.no a ha'.1.1 ha'.2 (by rw [z]; exact Nat.dvd_refl _)
    · rw [List.mem_append, List.mem_singleton]
      constructor
      · rintro (a | rfl)
        · exact ⟨(I.pr p a).1, (I.all p (I.pr p a).1).mpr (.inl a)⟩
        · exact ⟨hn, I.dv⟩
      · rintro ⟨a, b⟩
        rcases (I.all p a).mp b with z | z
        · exact .inl z
        · exact .inr (a.eq_of_dvd hn z)
  · rw [if_neg h1]
    have e1 : n = 1 := by have := I.pos; omega
    refine ⟨I.nd, fun p => ⟨fun a => ⟨(I.pr p a).1, (I.all p (I.pr p a).1).mpr (.inl a)⟩, ?_⟩⟩
    rintro ⟨a, b⟩
    rcases (I.all p a).mp b with z | z
    · exact z
    · rw [e1] at z; exact (pr_one a z).elim
/-- how far the primes of a number are taken out of it -/
structure DI (w t0 : Nat) (done : List Nat) (t : Nat) : Prop where
  pos : 0 < t
  mo : w ∣ Mo t
  dv : t ∣ t0
  no : ∀ q ∈ done, ¬ (q ∣ t ∧ w ∣ Mo (t / q))
theorem DI.step {w t0 t q : Nat} {done : List Nat} (I : DI w t0 done t) (pr : ∀ p ∈ done, 0 < p) (q2 : 2 ≤ q) (h : q ∣ t) (hm : w ∣ Mo (t / q)) : DI w t0 done (t / q) ∧ t / q < t := by
  obtain ⟨c, rfl⟩ := h
  rw [Nat.mul_div_cancel_left _ (by omega)] at hm ⊢
  have c0 : 0 < c := by
    rcases Nat.eq_zero_or_pos c with z | z
    · have := I.pos; rw [z, Nat.mul_zero] at this; omega
    · exact z
  refine ⟨⟨c0, hm, Nat.dvd_trans ⟨q, by rw [Nat.mul_comm]⟩ I.dv, fun p hp z => I.no p hp ⟨Nat.dvd_trans z.1 ⟨q, by rw [Nat.mul_comm]⟩, ?_⟩⟩, ?_⟩
  · obtain ⟨⟨d, rfl⟩, z2⟩ := z
    have p0 := pr p hp
    rw [Nat.mul_div_cancel_left _ p0] at z2
    rw [show q * (p * d) = p * (d * q) by grind, Nat.mul_div_cancel_left _ p0]
    exact Nat.dvd_trans z2 (mo_dvd ⟨q, rfl⟩)
  · have : 2 * c ≤ q * c := Nat.mul_le_mul_right c q2
    omega
theorem DI.next {w t0 t q : Nat} {done : List Nat} (I : DI w t0 done t) (h : ¬ (q ∣ t ∧ w ∣ Mo (t / q))) : DI w t0 (done ++ [q]) t :=
  ⟨I.pos, I.mo, I.dv, fun p hp => by
    rcases List.mem_append.mp hp with z | z
    · exact I.no p z
    · rw [List.mem_singleton] at z
      rw [z]; exact h⟩
theorem DI.fin {w t0 t : Nat} {ps : List Nat} (odd : w % 2 = 1) (P : Prs t0 ps) (I : DI w t0 ps t) : Ord w t :=
  Ord.of odd I.pos I.mo fun q hq hd z => I.no q ((P.2 q).mpr ⟨hq, Nat.dvd_trans hd I.dv⟩) ⟨hd, z⟩
/-- the primes' own way of making less stays below -/
theorem tot_le : ∀ (ps : List Nat) (m : Nat), tot m ps ≤ m
  | [], m => Nat.le_refl m
  | p :: ps, m => by
    rw [tot]
    refine Nat.le_trans (tot_le ps _) ?_
    refine Nat.le_trans (Nat.mul_le_mul_left _ (Nat.sub_le p 1)) ?_
    exact Nat.div_mul_le_self m p
theorem tot_app (m : Nat) (ps : List Nat) (q : Nat) : tot m (ps ++ [q]) = tot m ps / q * (q - 1) := by
  induction ps generalizing m with
  | nil => rfl
  | cons p ps ih => exact ih _
/-- the ring of two, p and q: the least number of doublings by rests behind which p is there again -/
def Again (p s k : Nat) : Prop := p * 2 ^ k % s = p % s
theorem again_iff {p s g p' s' k : Nat} (g0 : 0 < g) (ep : p = g * p') (es : s = g * s') (cop : Nat.gcd s' p' = 1) : Again p s k ↔ s' ∣ Mo k := by
  unfold Again Mo
  subst ep es
  have h1 := mo_pos k
  have e : g * p' * 2 ^ k = g * p' * (2 ^ k - 1) + g * p' := by
    obtain ⟨y, hy⟩ : ∃ y, 2 ^ k = y + 1 := ⟨2 ^ k - 1, by omega⟩
    rw [hy, Nat.add_sub_cancel, Nat.mul_add, Nat.mul_one]
  rw [e]
  constructor
  · intro h
    have h2 : g * s' ∣ g * p' * (2 ^ k - 1) := by
      have := Nat.sub_mod_eq_zero_of_mod_eq (m := g * p' * (2 ^ k - 1) + g * p') (n := g * p') (k := g * s') h
      rw [Nat.add_sub_cancel] at this
      exact Nat.dvd_of_mod_eq_zero this
    rw [Nat.mul_assoc] at h2
    exact Nat.Coprime.dvd_of_dvd_mul_left cop (Nat.dvd_of_mul_dvd_mul_left g0 h2)
  · rintro ⟨c, hc⟩
    rw [hc, show g * p' * (s' * c) + g * p' = g * p' + g * s' * (p' * c) by grind, Nat.add_mul_mod_self_left]
/-- what a ring is told by: none, of an even number of shares; else its order -/
def RingOf (p q : Nat) : Option Nat → Prop
  | none => ∀ k, 0 < k → ¬ Again p (p + q) k
  | some t => 0 < t ∧ Again p (p + q) t ∧ ∀ k, 0 < k → Again p (p + q) k → t ≤ k
theorem ring_parts {p q : Nat} (p0 : 0 < p) (q0 : 0 < q) : ∃ g p' q', 0 < g ∧ p = g * p' ∧ q = g * q' ∧ Nat.gcd p' q' = 1 ∧ g = Nat.gcd p q ∧ 0 < p' ∧ 0 < q' ∧ (p + q) / Nat.gcd p q = p' + q' ∧ Nat.gcd (p' + q') p' = 1 := by
  have g0 : 0 < Nat.gcd p q := Nat.gcd_pos_of_pos_left q p0
  obtain ⟨p', ep⟩ := Nat.gcd_dvd_left p q
  obtain ⟨q', eq⟩ := Nat.gcd_dvd_right p q
  have pp : 0 < p' := by
    rcases Nat.eq_zero_or_pos p' with z | z
    · rw [z, Nat.mul_zero] at ep; omega
    · exact z
  have qp : 0 < q' := by
    rcases Nat.eq_zero_or_pos q' with z | z
    · rw [z, Nat.mul_zero] at eq; omega
    · exact z
  have cop : Nat.gcd p' q' = 1 := by
    have : Nat.gcd p q * Nat.gcd p' q' = Nat.gcd p q * 1 := by
      rw [← Nat.gcd_mul_left, ← ep, ← eq, Nat.mul_one]
    exact Nat.eq_of_mul_eq_mul_left g0 this
  have es : p + q = Nat.gcd p q * (p' + q') := by rw [Nat.mul_add, ← ep, ← eq]
  refine ⟨Nat.gcd p q, p', q', g0, ep, eq, cop, rfl, pp, qp, ?_, ?_⟩
  · rw [es, Nat.mul_div_cancel_left _ g0]
  · rw [Nat.gcd_comm, Nat.gcd_rec] 
    have : Nat.gcd p' (p' + q') = Nat.gcd p' q' := by rw [Nat.add_comm]; exact Nat.gcd_add_self_right p' q'
    rw [← Nat.gcd_rec]
    rw [this]
    exact cop
theorem ring_even {p q : Nat} (p0 : 0 < p) (q0 : 0 < q) (h : (p + q) / Nat.gcd p q % 2 = 0) : RingOf p q none := by
  obtain ⟨g, p', q', g0, ep, eq, cop, eg, pp, qp, es, cop2⟩ := ring_parts p0 q0
  intro k k0 ha
  rw [es] at h
  have := (again_iff (k := k) (s := p + q) g0 ep (by rw [ep, eq, ← Nat.mul_add]) cop2).mp ha
  have h2 : 2 ∣ Mo k := Nat.dvd_trans (Nat.dvd_of_mod_eq_zero h) this
  unfold Mo at h2
  obtain ⟨j, rfl⟩ : ∃ j, k = j + 1 := ⟨k - 1, by omega⟩
  have := mo_pos j
  rw [Nat.pow_succ] at h2
  omega
theorem ring_odd {p q t : Nat} (p0 : 0 < p) (q0 : 0 < q) (h : Ord ((p + q) / Nat.gcd p q) t) : RingOf p q (some t) := by
  obtain ⟨g, p', q', g0, ep, eq, cop, eg, pp, qp, es, cop2⟩ := ring_parts p0 q0
  rw [es] at h
  have iff : ∀ k, Again p (p + q) k ↔ p' + q' ∣ Mo k := fun k => again_iff g0 ep (by rw [ep, eq, ← Nat.mul_add]) cop2
  exact ⟨h.1, (iff t).mpr h.2.1, fun k k0 hk => h.2.2 k k0 ((iff k).mp hk)⟩
end Rn

/-! MKc: a while by a measure, its test read as it stands -/
namespace MG
open PySem PySem.Spec PyProof.Rows L2
/-- one goal reached by several ways -/
theorem waysTo {A B : Prop} (f : A → B) (a : A) : B := f a
theorem waysIf (C : Prop) {A B : Prop} (f : (C → A) → B) (a : C → A) : B := f a
theorem while_go {c : TT} {tb : TS} {D : Ends} {σ : L2.St} {H : Hp} (Pv : L2.St → Hp → Prop) (μ : L2.St → Hp → Nat) (h0 : Pv σ H)
    (hs : ∀ σ H, Pv σ H → c σ H fun b H1 => if b = true then ∃ N : L2.St → Hp → Prop, (∀ σ' H', N σ' H' → ∃ m', m' < μ σ H ∧ m' = μ σ' H' ∧ Pv σ' H') ∧ tb { D with nx := N, ct := N, bk := D.nx } σ H1 else D.nx σ H1) : tWhile c tb D σ H :=
  ⟨fun m σ H => m = μ σ H ∧ Pv σ H, ⟨_, rfl, h0⟩, fun m σ H ⟨e, p⟩ => by subst e; exact hs σ H p⟩
end MG
namespace MG
open PySem PySem.Spec PyProof.Rows L2
theorem units65 {k : Nat} {A : Around} (r : Room k A) : A.units + 65 < cLine := by have := r.un; omega
end MG

/-! MKd: rings of two, gone plainly, undone. Pure mathematics. -/
namespace Rn
theorem ringOf_unique {p q : Nat} {o o' : Option Nat} (a : RingOf p q o) (b : RingOf p q o') : o = o' := by
  cases o with
  | none =>
    cases o' with
    | none => rfl
    | some t => exact (a t b.1 b.2.1).elim
  | some t =>
    cases o' with
    | none => exact (b t a.1 a.2.1).elim
    | some u =>
      have h1 := a.2.2 u b.1 b.2.1
      have h2 := b.2.2 t a.1 a.2.1
      rw [show t = u by omega]
theorem again_times {p s t : Nat} (h : Again p s t) (j : Nat) : Again p s (t * j) := by
  unfold Again at h ⊢
  induction j with
  | zero => rw [Nat.mul_zero, Nat.pow_zero, Nat.mul_one]
  | succ j ih => rw [Nat.mul_succ, Nat.pow_add, ← Nat.mul_assoc, Nat.mul_mod, ih, ← Nat.mul_mod, h]
/-- what the first one has behind m deeds -/
def xv (p s m : Nat) : Nat := p * 2 ^ m % s
theorem xv_add (p s m k : Nat) : xv p s m * 2 ^ k % s = xv p s (m + k) := by
  unfold xv
  rw [Nat.mod_mul_mod, Nat.mul_assoc, ← Nat.pow_add]
theorem xv_zero {p s : Nat} (h : p < s) : xv p s 0 = p := by
  unfold xv
  rw [Nat.pow_zero, Nat.mul_one, Nat.mod_eq_of_lt h]
theorem again_xv {p s m : Nat} (h : p < s) : Again p s m ↔ xv p s m = p := by
  unfold Again xv
  rw [Nat.mod_eq_of_lt h]
theorem back_zero {p q m : Nat} (p0 : 0 < p) (q0 : 0 < q) (h : xv p (p + q) m = 0) : RingOf p q none := by
  intro t t0 ha
  have lt : p < p + q := by omega
  have a := (again_xv lt).mp (again_times ha m)
  have le : m ≤ t * m := Nat.le_mul_of_pos_left m t0
  have := xv_add p (p + q) m (t * m - m)
  rw [h, Nat.zero_mul, Nat.zero_mod, show m + (t * m - m) = t * m by omega, a] at this
  omega
theorem back_found {p q k : Nat} (q0 : 0 < q) (no : ∀ m, 1 ≤ m → m ≤ k → xv p (p + q) m ≠ p) (h : xv p (p + q) (k + 1) = p) : RingOf p q (some (k + 1)) := by
  have lt : p < p + q := by omega
  refine ⟨by omega, (again_xv lt).mpr h, fun m m0 hm => ?_⟩
  refine Classical.byContradiction fun z => no m (by omega) (by omega) ((again_xv lt).mp hm)
theorem back_rep {p q k i : Nat} (q0 : 0 < q) (no : ∀ m, 1 ≤ m → m ≤ k → xv p (p + q) m ≠ p) (i1 : 1 ≤ i) (ik : i ≤ k) (h : xv p (p + q) (k + 1) = xv p (p + q) i) : RingOf p q none := by
  intro t t0 ha
  have lt : p < p + q := by omega
  have down : ∀ m, i ≤ m → ∃ m', i ≤ m' ∧ m' ≤ k ∧ xv p (p + q) m' = xv p (p + q) m := by
    intro m
    induction m using Nat.strongRecOn with
    | ind m ih =>
      intro hm
      by_cases hk : m ≤ k
      · exact ⟨m, hm, hk, rfl⟩
      · obtain ⟨m', a, b, c⟩ := ih (m - (k + 1 - i)) (by omega) (by omega)
        refine ⟨m', a, b, ?_⟩
        rw [c]
        have e1 := xv_add p (p + q) i (m - (k + 1))
        have e2 := xv_add p (p + q) (k + 1) (m - (k + 1))
        rw [h, e1] at e2
        rw [show m - (k + 1 - i) = i + (m - (k + 1)) by omega, e2, show k + 1 + (m - (k + 1)) = m by omega]
  have a := (again_xv lt).mp (again_times ha i)
  obtain ⟨m', b, c, d⟩ := down (t * i) (Nat.le_mul_of_pos_left i t0)
  rw [a] at d
  exact no m' (by omega) c d
/-- the ring is the same further on -/
theorem ring_on {p q t m : Nat} (q0 : 0 < q) (R : RingOf p q (some t)) (p' q' : Nat) (hp : p' = xv p (p + q) m) (hs : p' + q' = p + q) (q0' : 0 < q') : RingOf p' q' (some t) := by
  obtain ⟨t0, ha, least⟩ := R
  have lt : p < p + q := by omega
  have lt' : p' < p' + q' := by omega
  have iff : ∀ w, Again p' (p' + q') w ↔ Again p (p + q) w := by
    intro w
    rw [again_xv lt', again_xv lt, hs]
    have e : xv p' (p + q) w = xv p (p + q) (m + w) := by rw [← xv_add, ← hp]; rfl
    rw [e, hp]
    constructor
    · intro h
      have a := (again_xv lt).mp (again_times ha m)
      have le : m ≤ t * m := Nat.le_mul_of_pos_left m t0
      have e1 := xv_add p (p + q) (m + w) (t * m - m)
      rw [h, xv_add, show m + (t * m - m) = t * m by omega, a, show m + w + (t * m - m) = t * m + w by omega, ← xv_add, a] at e1
      exact e1.symm
    · intro h
      rw [Nat.add_comm m w, ← xv_add, h]
      rfl
  refine ⟨t0, (iff t).mpr ha, fun k k0 hk => least k k0 ((iff k).mp hk)⟩
/-- gone on to the end of the ring -/
theorem ring_undo {p q t m r : Nat} (q0 : 0 < q) (R : RingOf p q (some t)) (h : (m + r) % t = 0) : xv p (p + q) m * 2 ^ r % (p + q) = p := by
  have lt : p < p + q := by omega
  rw [xv_add, show m + r = t * ((m + r) / t) by rw [Nat.mul_div_cancel' (Nat.dvd_of_mod_eq_zero h)]]
  exact (again_xv lt).mp (again_times R.2.1 _)
theorem ring_pos {p q t : Nat} (p0 : 0 < p) (q0 : 0 < q) (R : RingOf p q (some t)) (m : Nat) : 0 < xv p (p + q) m := by
  refine Nat.pos_of_ne_zero fun z => ?_
  have := ringOf_unique R (back_zero p0 q0 z)
  cases this
end Rn
namespace MG
open PySem PySem.Spec PyProof.Rows L2
/-- what two have behind m deeds -/
def pr0 (p q m : Nat) : Int × Int := ((Rn.xv p (p + q) m : Nat), ((p + q - Rn.xv p (p + q) m : Nat) : Int))
def kq (p q k : Nat) : List (Int × Int) := (List.range k).map (pr0 p q)
theorem kq_succ (p q k : Nat) : kq p q (k + 1) = kq p q k ++ [pr0 p q k] := by
  unfold kq
  rw [List.range_succ, List.map_append]
  rfl
theorem kq_at {p q k m : Nat} (h : m < k) : (kq p q k)[m]? = some (pr0 p q m) := by
  unfold kq
  rw [List.getElem?_map, List.getElem?_range h]
  rfl
theorem eqv_prD (c d : Int × Int) : PyData.eqv (prD c) (prD d) = decide (c = d) := by
  have : PyData.eqv (prD c) (prD d) = (decide (c.1 = d.1) && (decide (c.2 = d.2) && true)) := rfl
  rw [this]
  by_cases h1 : c.1 = d.1
  · by_cases h2 : c.2 = d.2
    · rw [decide_eq_true h1, decide_eq_true h2, decide_eq_true (Prod.ext h1 h2)]; rfl
    · rw [decide_eq_false h2, decide_eq_false (fun z => h2 (congrArg Prod.snd z)), Bool.false_and, Bool.and_false]
  · rw [decide_eq_false h1, decide_eq_false (fun z => h1 (congrArg Prod.fst z)), Bool.false_and]
theorem pr0_eq {p q m n : Nat} : pr0 p q m = pr0 p q n ↔ Rn.xv p (p + q) m = Rn.xv p (p + q) n := by
  unfold pr0
  constructor
  · intro h
    have := congrArg Prod.fst h
    dsimp only at this
    omega
  · intro h
    rw [h]
end MG
namespace Rn
/-- gone plainly: at which it comes again, or that one has nothing -/
structure GoEnd (p q n : Nat) (ag : Option Nat) : Prop where
  n0 : 1 ≤ n
  dis : ∀ a b, a < b → b < n → xv p (p + q) a ≠ xv p (p + q) b
  pos : ∀ m, m + 1 < n → 0 < xv p (p + q) m
  fin : match ag with
    | none => xv p (p + q) (n - 1) = 0
    | some i => i < n ∧ xv p (p + q) n = xv p (p + q) i ∧ 0 < xv p (p + q) (n - 1)
theorem GoEnd.ring {p q n : Nat} {ag : Option Nat} (p0 : 0 < p) (q0 : 0 < q) (h : GoEnd p q n ag) : RingOf p q (if ag = some 0 then some n else none) := by
  have lt : p < p + q := by omega
  have nop : ∀ m, 1 ≤ m → m ≤ n - 1 → xv p (p + q) m ≠ p := fun m a b z => h.dis 0 m (by omega) (by have := h.n0; omega) (by rw [z, xv_zero lt])
  have n0 := h.n0
  have fin := h.fin
  cases ag with
  | none =>
    rw [if_neg (fun z => by cases z)]
    exact back_zero p0 q0 fin
  | some i =>
    obtain ⟨f1, f2, _⟩ := fin
    by_cases hi : i = 0
    · subst hi
      rw [if_pos rfl]
      rw [xv_zero lt] at f2
      have := back_found q0 nop (by rw [show n - 1 + 1 = n by omega]; exact f2)
      rw [show n - 1 + 1 = n by omega] at this
      exact this
    · rw [if_neg (fun z => hi (Option.some.inj z))]
      exact back_rep q0 nop (i := i) (by omega) (by omega) (by rw [show n - 1 + 1 = n by omega]; exact f2)
/-- all that ever comes was there -/
theorem GoEnd.all {p q n : Nat} {ag : Option Nat} (h : GoEnd p q n ag) (m : Nat) : ∃ m', m' < n ∧ xv p (p + q) m' = xv p (p + q) m := by
  have n0 := h.n0
  have fin := h.fin
  induction m using Nat.strongRecOn with
  | ind m ih =>
    by_cases hm : m < n
    · exact ⟨m, hm, rfl⟩
    · cases ag with
      | none =>
        refine ⟨n - 1, by omega, ?_⟩
        have := xv_add p (p + q) (n - 1) (m - (n - 1))
        rw [fin, Nat.zero_mul, Nat.zero_mod, show n - 1 + (m - (n - 1)) = m by omega] at this
        rw [fin]
        exact this
      | some i =>
        obtain ⟨f1, f2, _⟩ := fin
        obtain ⟨m', a, b⟩ := ih (m - (n - i)) (by omega)
        refine ⟨m', a, ?_⟩
        rw [b]
        have e1 := xv_add p (p + q) i (m - n)
        have e2 := xv_add p (p + q) n (m - n)
        rw [f2, e1] at e2
        rw [show m - (n - i) = i + (m - n) by omega, e2, show n + (m - n) = m by omega]
end Rn

/-! MKe: known orders of 2; rings by their shares. Pure mathematics. -/
namespace Rn
theorem ord_unique {w t u : Nat} (a : Ord w t) (b : Ord w u) : t = u := by
  have h1 := a.2.2 u b.1 b.2.1
  have h2 := b.2.2 t a.1 a.2.1
  omega
theorem ring_iff {p q k : Nat} (p0 : 0 < p) (q0 : 0 < q) : Again p (p + q) k ↔ (p + q) / Nat.gcd p q ∣ Mo k := by
  obtain ⟨g, p', q', g0, ep, eq, cop, eg, pp, qp, es, cop2⟩ := ring_parts p0 q0
  rw [es]
  exact again_iff g0 ep (by rw [ep, eq, ← Nat.mul_add]) cop2
theorem ring_ord {p q t : Nat} (p0 : 0 < p) (q0 : 0 < q) (R : RingOf p q (some t)) : Ord ((p + q) / Nat.gcd p q) t :=
  ⟨R.1, (ring_iff p0 q0).mp R.2.1, fun k k0 h => R.2.2 k k0 ((ring_iff p0 q0).mpr h)⟩
theorem ord_minus {k : Nat} (hk : 2 ≤ k) : Ord (2 ^ k - 1) k := by
  refine ⟨by omega, Nat.dvd_refl _, fun d d0 h => ?_⟩
  have h1 : 1 < 2 ^ d := Nat.one_lt_two_pow (by omega)
  have := Nat.le_of_dvd (by unfold Mo; omega) h
  unfold Mo at this
  have h2 := mo_pos k
  exact (Nat.pow_le_pow_iff_right (by decide : 1 < 2)).mp (by omega)
theorem ord_plus {k : Nat} (hk : 1 ≤ k) : Ord (2 ^ k + 1) (2 * k) := by
  have h2 := mo_pos k
  refine ⟨by omega, ⟨2 ^ k - 1, ?_⟩, fun d d0 h => ?_⟩
  · unfold Mo
    rw [Nat.mul_comm 2 k, Nat.pow_mul]
    obtain ⟨y, hy⟩ : ∃ y, 2 ^ k = y + 1 := ⟨2 ^ k - 1, by omega⟩
    rw [hy, Nat.add_sub_cancel]
    have : (y + 1) ^ 2 = (y + 1 + 1) * y + 1 := by grind
    omega
  · refine Classical.byContradiction fun z => ?_
    have small : ∀ e, e ≤ k → 0 < e → ¬ 2 ^ k + 1 ∣ Mo e := fun e he e0 hd => by
      have h1 : 1 < 2 ^ e := Nat.one_lt_two_pow (by omega)
      have := Nat.le_of_dvd (by unfold Mo; omega) hd
      unfold Mo at this
      have := Nat.pow_le_pow_right (show 0 < 2 by decide) he
      omega
    by_cases hdk : d ≤ k
    · exact small d hdk d0 h
    · obtain ⟨e, rfl⟩ : ∃ e, d = k + e := ⟨d - k, by omega⟩
      have e0 : 0 < e := by omega
      have ek : e < k := by omega
      have id : Mo (k + e) + (2 ^ e + 1) = 2 ^ e * (2 ^ k + 1) := by
        unfold Mo
        have e1 : 2 ^ (k + e) = 2 ^ k * 2 ^ e := Nat.pow_add 2 k e
        have e2 : 2 ^ e * (2 ^ k + 1) = 2 ^ k * 2 ^ e + 2 ^ e := by grind
        have : 1 ≤ 2 ^ k * 2 ^ e := Nat.mul_pos (mo_pos k) (mo_pos e)
        rw [e1, e2]
        omega
      have hd : 2 ^ k + 1 ∣ 2 ^ e + 1 := (Nat.dvd_add_iff_right h).mpr (by rw [id]; exact ⟨2 ^ e, Nat.mul_comm _ _⟩)
      have := Nat.le_of_dvd (Nat.succ_pos _) hd
      have := Nat.pow_lt_pow_right (show 1 < 2 by decide) ek
      omega
/-- 2 to so many by rests, by squares -/
def pm (w : Nat) : Nat → Nat → Nat → Nat → Nat
  | 0, _, _, a => a
  | f + 1, t, b, a => pm w f (t / 2) (b * b % w) (if t % 2 = 1 then a * b % w else a)
theorem pm_eq (w : Nat) : ∀ (f t b a : Nat), t < 2 ^ f → pm w f t b a % w = a * b ^ t % w
  | 0, t, b, a, h => by
    have : t = 0 := by rw [Nat.pow_zero] at h; omega
    subst this
    rw [pm, Nat.pow_zero, Nat.mul_one]
  | f + 1, t, b, a, h => by
    rw [pm, pm_eq w f _ _ _ (by rw [Nat.pow_succ] at h; omega)]
    have sq : (b * b % w) ^ (t / 2) % w = b ^ (2 * (t / 2)) % w := by
      rw [← Nat.pow_mod, Nat.pow_mul, Nat.pow_two]
    by_cases ht : t % 2 = 1
    · rw [if_pos ht, Nat.mul_mod, Nat.mod_mod, sq, ← Nat.mul_mod, Nat.mul_assoc, ← Nat.pow_succ', show (2 * (t / 2)).succ = t by omega]
    · rw [if_neg ht, Nat.mul_mod, sq, ← Nat.mul_mod, show 2 * (t / 2) = t by omega]
theorem not_mo {w t f : Nat} (hw : 2 ≤ w) (h : t < 2 ^ f) (e : pm w f t 2 1 % w ≠ 1) : ¬ w ∣ Mo t := by
  rw [mo_iff hw, ← Nat.one_mul (2 ^ t), ← pm_eq w f t 2 1 h]
  exact e
theorem pr_two_mul {q a b n : Nat} (hq : Pr q) (ha : Pr a) (hb : Pr b) (c m : Nat) (h : q ∣ a ^ c * b ^ m) : q = a ∨ q = b := by
  rcases hq.dvd_mul h with z | z
  · exact .inl (hq.eq_of_dvd ha (hq.dvd_pow z))
  · exact .inr (hq.eq_of_dvd hb (hq.dvd_pow z))
theorem pr2 : Pr 2 := ⟨Nat.le_refl 2, fun d hd => by
  have := Nat.le_of_dvd (by decide) hd
  have : d ≠ 0 := fun z => by rw [z] at hd; have := Nat.eq_zero_of_zero_dvd hd; omega
  omega⟩
theorem pr3 : Pr 3 := ⟨by decide, fun d hd => by
  have := Nat.le_of_dvd (by decide) hd
  have : d ≠ 0 := fun z => by rw [z] at hd; have := Nat.eq_zero_of_zero_dvd hd; omega
  have : d ≠ 2 := fun z => by rw [z] at hd; omega
  omega⟩
theorem pr5 : Pr 5 := ⟨by decide, fun d hd => by
  have := Nat.le_of_dvd (by decide) hd
  have : d ≠ 0 := fun z => by rw [z] at hd; have := Nat.eq_zero_of_zero_dvd hd; omega
  have : d ≠ 2 := fun z => by rw [z] at hd; omega
  have : d ≠ 3 := fun z => by rw [z] at hd; omega
  have : d ≠ 4 := fun z => by rw [z] at hd; omega
  omega⟩
theorem ord_3 : Ord (3 ^ 18) (2 * 3 ^ 17) := by
  refine Ord.of (by decide) (by decide) (euler_pow pr3 (by decide) 17) fun q hq hd => ?_
  rcases pr_two_mul (n := 0) hq pr2 pr3 1 17 (by rw [Nat.pow_one]; exact hd) with rfl | rfl
  · exact not_mo (f := 28) (by decide) (by decide) (by decide +kernel)
  · exact not_mo (f := 28) (by decide) (by decide) (by decide +kernel)
theorem ord_5 : Ord (5 ^ 12) (4 * 5 ^ 11) := by
  refine Ord.of (by decide) (by decide) (euler_pow pr5 (by decide) 11) fun q hq hd => ?_
  rcases pr_two_mul (n := 0) hq pr2 pr5 2 11 hd with rfl | rfl
  · exact not_mo (f := 28) (by decide) (by decide) (by decide +kernel)
  · exact not_mo (f := 28) (by decide) (by decide) (by decide +kernel)
theorem ord_59 : Ord (5 ^ 9) (4 * 5 ^ 8) := by
  refine Ord.of (by decide) (by decide) (euler_pow pr5 (by decide) 8) fun q hq hd => ?_
  rcases pr_two_mul (n := 0) hq pr2 pr5 2 8 hd with rfl | rfl
  · exact not_mo (f := 21) (by decide) (by decide) (by decide +kernel)
  · exact not_mo (f := 21) (by decide) (by decide) (by decide +kernel)
end Rn

/-! MNa: t.index(k) of whole numbers; sorted(set(xs)) of a list of them -/
namespace MG
open PySem PySem.Spec PyProof.Rows L2
section
variable {X : Cx}
/-- the first place of what is there -/
theorem mt_indexI : MtR X "tuple.index" (fun x xs H Q => ∃ (p : Addr) (ys : List Int) (k : Int), x = .ref p ∧ xs = [.int k] ∧ SqT X.K H p (ys.map V.int) ∧ k ∈ ys ∧ Q (.int (ys.idxOf k : Nat)) H) := by
  rintro pins s σ H x xs v us Q I rx rs ⟨p, ys, k, rfl, rfl, sq, hk, want⟩
  cases rx
  obtain ⟨u, rfl, t, rfl⟩ := vals1 rs
  obtain ⟨its, rel, tup, _⟩ := I.tuple sq
  exact SeqAt.call_tuple_index tup (SeqAt.ItemsEq.ints (ints_of_vals rel)) hk ⟨.int (ys.idxOf k : Nat), H, I.tok _, ⟨_, rfl⟩, want⟩
end
section
variable {P : Program} {w : World} {A : Around} {E : Value → Shared → Prop} {s : Shared}
/-- a new set, nothing in it -/
def bare (w : World) : Obj := { cls := .type "set", dict := none, data := .set #[] 0 (.fresh 0 0 (!w.params.followText "set-order")) }
/-- set(v): all hangs on what __init__ does -/
theorem set_by_init {v : Value} {Q : Value → Shared → Prop} (ty : Shared.TypeIs { s with heap := s.heap.push (bare w) } v "list")
    (init : ∀ A' : Around, A'.handled = A.handled → codeAny (model P w) A' (.builtin "set.__init__" ⟨[.ref s.heap.objs.size, v], []⟩) (wants (fun r s' => r = .none ∧ Q (.ref s.heap.objs.size) s') E) { s with heap := s.heap.push (bare w) }) :
    wpAny (model P w) A (call (.type "set") [v]) Q E s := by
  obtain ⟨c, tl, hmro⟩ := F.called_set.mro
  have made := F.called_set.made
  have sub := F.called_set.sub
  have nt := F.called_set.notType
  have can := F.called_set.canCreate
  have one := F.typeCall_set_1 v
  refine wpAny_call (codeAny_of_tree (wpAny_pure ⟨Code.quiet_builtin _ (by decide +kernel), codeAny_builtin F.entry_type_call ?_⟩))
  rw [Around.under_plain (weight_type_call_type "set" [v] []) rfl]
  repeat (any_goals (first | assumption | wp_step))
  refine codeAny_mono (code_set_led1 v (E := E) (Q₁ := fun o s1 => o = .ref s.heap.objs.size ∧ s1 = { s with heap := s.heap.push (bare w) }) ⟨rfl, rfl⟩) ?_
  rintro (e | f) s1 got
  · exact got
  · match f, got with
    | .ret o, ⟨e1, e2⟩ =>
      subst e1 e2
      have li := F.called_set.init.lookup
      have bi := F.called_set.init.bind (.ref s.heap.objs.size)
      have hT : Shared.TypeIs { s with heap := s.heap.push (bare w) } (.ref s.heap.objs.size) "set" := ⟨_, Heap.get?_push_size _ rfl, rfl⟩
      have ini := init
      unfold bare at hT ty ini ⊢
      repeat (any_goals (first | assumption | wp_step))
      refine codeAny_mono (codeAny_call_builtin_code (plainId_quiet F.called_set.init.plain _) (check_set_init_1 hT (ini A.in1 rfl))) ?_
      rintro (e | f) s2 got2
      · exact got2
      · match f, got2 with
        | .ret r, ⟨e3, want⟩ =>
          subst e3
          repeat (any_goals (first | assumption | wp_step))
/-- what __init__ puts into a set that has nothing yet, of a list of whole numbers -/
theorem init_by_list {l S : Addr} {its : List Value} {ns : List Int} {R : Value → Shared → Prop} (calm : A.handled = none) (hS : s.heap.get? S = some (bare w)) (lst : s.heap.IsList l its.toArray) (nl : l ≠ S) (nums : IntsAre its ns) (room : ns.length + 1 < scanBound)
    (go : ∀ (h' : Heap) (tk c : Nat), SetR w h' S (fun j => decide (j ∈ ns)) c → c ≤ ns.length → (∀ b o, b ≠ S → s.heap.get? b = some o → h'.get? b = some o) → R .none { s with heap := h', toks := tk }) :
    codeAny (model P w) A (.builtin "set.__init__" ⟨[.ref S, .ref l], []⟩) (wants R E) s := by
  have many : its.length = ns.length := IntsAre.length nums
  refine codeAny_builtin F.entry_set_init ?_
  rw [Around.under_plainId F.called_set.init.plain _]
  obtain ⟨ol, hol, hcl, n, hdl⟩ := id lst
  obtain ⟨oc, od, oda, osl⟩ := ol
  simp only at hcl hdl
  subst hcl hdl
  unfold Builtin.«set.__init__» noKeywords Builtin.Frozenset.updateFrom
  have ns1 := F.sub_list_set
  have ns2 := F.sub_list_frozenset
  have ns3 : (Value.type "list" == Value.type "dict") = false := by decide
  generalize it : pyIter = iter
  wp_walk
  subst it
  refine wpAny_pyIter_list lst (wpAny_bind (wpAny_runValue ?_))
  have Sl : S < s.heap.objs.size := Heap.lt_size hS
  have ll : l < s.heap.objs.size := Heap.lt_size hol
  have calm3 : A.in1.in1.handled = none := by simp [calm]
  refine set_update_ints ((Walks.list calm3 _ l (Nat.ne_of_lt ll) its.toArray).toS) S (by simp only [List.mem_cons, List.not_mem_nil, or_false, not_or]; exact ⟨Nat.ne_of_lt Sl, fun z => nl z.symm⟩) ns (by rw [List.size_toArray]; exact many) room ?_ (its.toArray.size - 0) 0 _ (by omega) (Nat.zero_le _) ?_ ?_ ?_
  · intro i v hv
    rw [List.getElem?_toArray] at hv
    have hi : i < its.length := (List.getElem?_eq_some_iff.mp hv).1
    obtain ⟨t, ht⟩ := nums.get i ns[i] (List.getElem?_eq_getElem (by omega))
    rw [hv] at ht
    exact ⟨ns[i], t, List.getElem?_eq_getElem (by omega), Option.some.inj ht⟩
  · exact ⟨⟨_, Heap.get?_push_size _ rfl, rfl, rfl⟩, lst.push _⟩
  · exact ⟨0, Nat.le_refl 0, setR_new_at (Heap.get?_push_of_some _ hS)⟩
  · rintro ⟨h', g', d', tk', os'⟩ c mv hc hR
    obtain rfl : g' = s.gens := mv.gens
    obtain rfl : d' = s.drawn := mv.drawn
    obtain rfl : os' = s.os := mv.os
    refine wpAny_pure (wpAny_pure (go h' tk' c hR (by rw [List.size_toArray] at hc; omega) fun b o nb hb => ?_))
    exact mv.heap b o (by simp only [List.mem_cons, List.not_mem_nil, or_false, not_or]; exact ⟨nb, Nat.ne_of_lt (Heap.lt_size hb)⟩) (Heap.get?_push_of_some _ hb)
end
section
variable {X : Cx}
/-- set(xs) of a list of whole numbers -/
theorem cr_setL (hc : X.calm = true) : CallR X (.type "set") (fun xs H Q => ∃ (l : Addr) (ns : List Int), xs = [.ref l] ∧ SqL X.K H l (ns.map V.int) ∧ ns.length ≤ 1000 ∧
    ∀ p c, H p = none → c ≤ ns.length → Q (.ref p) (upd H p (SetO X.w p (fun j => decide (j ∈ ns)) c))) := by
  rintro pins s σ H xs us Q I r ⟨l, ns, rfl, sq, few, want⟩
  obtain ⟨u, rfl, rx⟩ := r.one
  cases rx
  obtain ⟨its, rel, lst, _⟩ := I.list sq
  have keep : ∀ b o, s.heap.get? b = some o → (s.heap.push (bare X.w)).get? b = some o := fun b o e => Heap.get?_push_of_some _ e
  refine set_by_init (lst.isList.push _).typeIs fun A' hA => ?_
  have ll : l < s.heap.objs.size := by
    obtain ⟨o, ho, _⟩ := lst.isList
    exact Heap.lt_size ho
  refine init_by_list (s := { s with heap := s.heap.push (bare X.w) }) (by rw [hA]; exact I.ok.hd hc) (Heap.get?_push_size _ rfl) (lst.isList.push _) (Nat.ne_of_lt ll) (ints_of_vals rel) (by unfold scanBound; omega) fun h' tk c hR hc' kp => ⟨rfl, ?_⟩
  exact ⟨.ref s.heap.objs.size, upd H s.heap.objs.size (SetO X.w s.heap.objs.size (fun j => decide (j ∈ ns)) c), I.laid (t' := tk) (fun b o e => kp b o (Nat.ne_of_lt (Heap.lt_size e)) (keep b o e)) (Nat.le_refl _) (setO_new hR), rfl, want _ c (I.hok.fresh (Nat.le_refl _)) hc'⟩
end
end MG

/-! MNb: a tuple just made is known to have no attributes of its own, so its methods can be asked -/
namespace MG
open PySem PySem.Spec PyProof.Rows L2
section
variable {X : Cx}
/-- tuple(xs) of a list: the new object is told -/
theorem call_tuple_frz : CallR X (.type "tuple") (fun xs H Q => ∃ p ys, xs = [.ref p] ∧ SqL X.K H p ys ∧ ∀ (l : Addr) (ob : Obj), H l = none → ob.cls = .type "tuple" → ob.dict = none → Q (.ref l) (upd H l (.frz ob (.tup ys)))) := by
  intro pins s σ H xs us Q I r h
  obtain ⟨p, ys, rfl, hq, q⟩ := h
  obtain ⟨u, rfl, rx⟩ := vals1 r
  cases rx
  obtain ⟨its, r', pl, hz⟩ := I.list hq
  have hlen := r'.length
  refine call_tuple_list pl.isList (fun h' kp => ?_) (by simp only [List.size_toArray] <;> omega)
  have I1 : Inv X pins σ H { s with heap := h' } := I.kept (t' := s.toks) kp
  have I2 := I1.laid (o := .frz { cls := .type "tuple", data := .seq its.toArray } (.tup ys)) (t' := s.toks) (h' := h'.push { cls := .type "tuple", data := .seq its.toArray }) (a := h'.objs.size) (fun b o e => Heap.get?_push_of_some _ e) (Nat.le_refl _) ⟨Heap.get?_push_size _ rfl, hz, its, r', IsTup.new _ _⟩
  exact ⟨.ref h'.objs.size, _, I2, rfl, q _ _ (I1.hok.fresh (Nat.le_refl _)) rfl rfl⟩
/-- t.index(k), t a tuple whose object is told; it may be told no more behind that -/
def tIdx (X : Cx) (to : TE) (t : TA) : TE := fun σ H Q => to σ H fun x H1 => ∃ (p : Addr) (ob : Obj) (ys : List Int), x = .ref p ∧ H1 p = some (.frz ob (.tup (ys.map V.int))) ∧ ob.cls = .type "tuple" ∧ ob.dict = none ∧
  t σ H1 fun xs H2 => ∃ k : Int, xs = [.int k] ∧ H2 p = some (.frz ob (.tup (ys.map V.int))) ∧ k ∈ ys ∧ (Q (.int (ys.idxOf k : Nat)) H2 ∨ (X.H_0 p = none ∧ Q (.int (ys.idxOf k : Nat)) (upd H2 p (.tup (ys.map V.int)))))
theorem pe_idx {o e : Expr} {es : List Expr} {to : TE} {t : TA} {apos cpos : Pos} (ho : PE X o to) (ha : PA X (e :: es) t)
    (hbase : attributeBase o "index" X.env (eval o X.env) = eval o X.env := by rfl)
    (hfew : ((backTo cpos (starEach (e :: es) X.env)).all (fun x => !x.1) && (backToKw cpos (keywordEach [] X.env)).all (fun x => x.1.isSome)
      && decide ((e :: es).length + ([] : List Keyword).length + (if ([] : List Keyword).isEmpty then 0 else 1) < 30)) = true := by rfl)
    (hline : (apos.endLine == cpos.line) = true := by rfl) (hs : starEach (e :: es) X.env = (false, eval e X.env) :: starEach es X.env := by rfl) (hplain : (backTo cpos (starEach es X.env)).any (·.1) = false := by rfl) :
    PE X (.Call (.Attribute o "index" apos) (e :: es) [] cpos) (tIdx X to t) := by
  refine ⟨fun pins s σ H Q I h => ?_⟩
  refine wpAny_Call_method_late hbase hfew hline rfl (thn (ho.run pins s σ H _ I h) fun v s1 ⟨x, H1, I1, r1, p, ob, ys, ex, e1, c1, d1, q1⟩ => ?_)
  subst ex
  cases r1
  have ok1 : s1.heap.get? p = some ob := (I1.hok p _ e1).1
  refine ⟨"tuple", "tuple.index", PySem.F.plainAttrs_tuple, PySem.F.slot_tuple_index, PySem.F.type_tuple_index, ⟨ob, ok1, c1⟩, fun a ea => ?_, ?_⟩
  · cases ea
    exact ⟨ob, ok1, d1⟩
  have hA := ha.run cpos pins s1 σ H1 _ I1 q1
  rw [hs] at hA ⊢
  refine Calls.callWith_builtin (by show (false || (backTo cpos (starEach es X.env)).any (·.1)) = false; rw [hplain] <;> rfl) (Calls.evalArgs_plain ?_)
  refine thn hA fun us s2 ⟨vs, H2, I2, r2, k, ek, e2, hk, q2⟩ => ?_
  subst ek
  obtain ⟨u, rfl, t, rfl⟩ := vals1 r2
  obtain ⟨its, rel, tup, _⟩ := I2.tuple (.inl (.inr ⟨ob, e2⟩))
  refine SeqAt.call_tuple_index tup (SeqAt.ItemsEq.ints (ints_of_vals rel)) hk ?_
  rcases q2 with q2 | ⟨n0, q2⟩
  · exact ⟨.int (ys.idxOf k : Nat), H2, I2.tok _, ⟨_, rfl⟩, q2⟩
  · exact ⟨.int (ys.idxOf k : Nat), _, (I2.unlock e2 (fun o' u' z => by rw [n0] at z; cases z)).tok _, ⟨_, rfl⟩, q2⟩
end

open LamX in
theorem tabsOffF {T : List (Addr × Str)} {b : Addr} {H H' : Hp} {ob : Obj} {u : HO} (t : Tabs T H) (hb : H b = some (.frz ob u)) (s : ∀ a o, a ≠ b → H a = some o → H' a = some o) (nt : ∀ ps, u ≠ .tbl ps) : Tabs T H' := by
  intro p hp
  obtain ⟨ps, e, ok, all⟩ := t p hp
  refine ⟨ps, s _ _ (fun z => by rw [z, hb] at e; cases e) e, ok, fun pos cv h => ?_⟩
  obtain ⟨c, ec, hc⟩ := all pos cv h
  exact ⟨c, ec, s _ _ (fun z => by rw [z, hb] at hc; cases hc) hc⟩
end MG

/-! MOa: a store in the heap -/
namespace MG
open PySem PySem.Spec PyProof.Rows L2 LamX
/-- a list of tuples of whole numbers, by their places -/
def LstAt (H : Hp) (l : Addr) (es : List (Addr × List Int)) : Prop := H l = some (.lst (es.map fun e => V.ref e.1)) ∧ ∀ e ∈ es, H e.1 = some (.tup (e.2.map V.int))
theorem LstAt.keep {H H' : Hp} {l : Addr} {es : List (Addr × List Int)} (h : LstAt H l es) (a : H' l = H l) (b : ∀ c xs, H c = some (.tup xs) → H' c = some (.tup xs)) : LstAt H' l es := ⟨by rw [a]; exact h.1, fun e he => b _ _ (h.2 e he)⟩
def sF (ls lm la : Addr) : List (Str × V) := putF "aims" (.ref la) (putF "made" (.ref lm) (putF "stood" (.ref ls) []))
theorem st_ma : ¬ (("stood" : Str) = "made") := by decide +kernel
theorem st_ai : ¬ (("stood" : Str) = "aims") := by decide +kernel
theorem ma_ai : ¬ (("made" : Str) = "aims") := by decide +kernel
theorem ma_st : ¬ (("made" : Str) = "stood") := by decide +kernel
theorem sF_stood (ls lm la : Addr) : (sF ls lm la).lookup ("stood" : Str) = some (.ref ls) := by
  unfold sF
  rw [lookup_putF, if_neg st_ai, lookup_putF, if_neg st_ma, lookup_putF, if_pos rfl]
theorem sF_made (ls lm la : Addr) : (sF ls lm la).lookup ("made" : Str) = some (.ref lm) := by
  unfold sF
  rw [lookup_putF, if_neg ma_ai, lookup_putF, if_pos rfl]
theorem sF_aims (ls lm la : Addr) : (sF ls lm la).lookup ("aims" : Str) = some (.ref la) := by
  unfold sF
  rw [lookup_putF, if_pos rfl]
theorem sF_no (ls lm la : Addr) {m : Str} (h1 : ¬ m = "stood") (h2 : ¬ m = "made") (h3 : ¬ m = "aims") : (sF ls lm la).lookup m = none := by
  unfold sF
  rw [lookup_putF, if_neg h3, lookup_putF, if_neg h2, lookup_putF, if_neg h1]
  rfl
/-- what is known of the class, of its text -/
structure StT (K : PySem.W.Frag) (C : Addr) : Prop where
  cl : Cls K C
  nS : NoAttr K C "stood"
  nM : NoAttr K C "made"
  nA : NoAttr K C "aims"
/-- a store at x: its lists, the rows it stood at, the calls that stand, its goals -/
structure StA (C : Addr) (H : Hp) (x ls lm la : Addr) (rows calls : List (Addr × List Int)) (gs : List (Key × V)) : Prop where
  ins : ∃ dx, H x = some (.ins C dx (sF ls lm la))
  stood : LstAt H ls rows
  made : LstAt H lm calls
  aims : H la = some (.dK gs)
  ne : ls ≠ lm
section
variable {C x ls lm la : Addr} {H H' : Hp} {rows calls : List (Addr × List Int)} {gs : List (Key × V)}
theorem StA.same (h : StA C H x ls lm la rows calls gs) (s : Same H H') : StA C H' x ls lm la rows calls gs := by
  obtain ⟨⟨dx, i⟩, st, ma, ai, ne⟩ := h
  exact ⟨⟨dx, s _ _ i⟩, ⟨s _ _ st.1, fun e he => s _ _ (st.2 e he)⟩, ⟨s _ _ ma.1, fun e he => s _ _ (ma.2 e he)⟩, s _ _ ai, ne⟩
theorem StA.ext (h : StA C H x ls lm la rows calls gs) (s : ExtN H H') : StA C H' x ls lm la rows calls gs := by
  obtain ⟨⟨dx, i⟩, st, ma, ai, ne⟩ := h
  exact ⟨⟨dx, s _ _ i (fun _ z => nomatch z)⟩, ⟨s _ _ st.1 (fun _ z => nomatch z), fun e he => s _ _ (st.2 e he) (fun _ z => nomatch z)⟩, ⟨s _ _ ma.1 (fun _ z => nomatch z), fun e he => s _ _ (ma.2 e he) (fun _ z => nomatch z)⟩, s _ _ ai (fun _ z => nomatch z), ne⟩
/-- the box is another thing -/
theorem StA.off {b : Addr} {o1 o2 o3 : Int} (h : StA C H x ls lm la rows calls gs) (hb : H b = some (.lst [.int o1, .int o2, .int o3])) (n1 : ls ≠ b) (n2 : lm ≠ b) (k : ∀ a o, a ≠ b → H a = some o → (∀ ps, o ≠ .tbl ps) → H' a = some o) : StA C H' x ls lm la rows calls gs := by
  obtain ⟨⟨dx, i⟩, st, ma, ai, ne⟩ := h
  have tu : ∀ {a : Addr} {xs : List V}, H a = some (.tup xs) → H' a = some (.tup xs) := fun {a xs} e => k a _ (fun z => by rw [z, hb] at e; cases e) e (fun _ z => nomatch z)
  exact ⟨⟨dx, k x _ (fun z => by rw [z, hb] at i; cases i) i (fun _ z => nomatch z)⟩, ⟨k ls _ n1 st.1 (fun _ z => nomatch z), fun e he => tu (st.2 e he)⟩, ⟨k lm _ n2 ma.1 (fun _ z => nomatch z), fun e he => tu (ma.2 e he)⟩, k la _ (fun z => by rw [z, hb] at ai; cases ai) ai (fun _ z => nomatch z), ne⟩
end
/-- how many deeds these calls are -/
def dsOf (calls : List (Addr × List Int)) : Int := (calls.map fun c => if c.2.length = 2 then 1 else c.2.getD 2 0).sum
end MG

namespace K56
open PySem PySem.Spec PyProof.Rows L2 MG LamX
abbrev sStore : Stmt := topS 50
abbrev sInit : Stmt := inClass sStore 0
abbrev sMRow : Stmt := inClass sStore 1
abbrev sMBack : Stmt := inClass sStore 4
theorem scInit : FnScope ["self", "row"] ["self", "row"] (defScope sInit) := ⟨rfl, rfl, rfl, by decide +kernel, rfl, by decide +kernel, by decide +kernel⟩
theorem scMRow : FnScope ["self"] ["self"] (defScope sMRow) := ⟨rfl, rfl, rfl, by decide +kernel, rfl, by decide +kernel, by decide +kernel⟩
theorem scMBack : FnScope ["self"] ["self"] (defScope sMBack) := ⟨rfl, rfl, rfl, by decide +kernel, rfl, by decide +kernel, by decide +kernel⟩
theorem dd_ints {H : Hp} : ∀ ns : List Int, DdAll H (ns.map V.int) (ns.map PyData.int)
  | [] => .nil
  | n :: r => .cons (.int n) (dd_ints r)
theorem nn_ints : ∀ {ns : List Int}, (∀ n ∈ ns, 0 ≤ n) → (ns.map PyData.int).all nnD = true
  | [], _ => rfl
  | n :: r, h => by
    show (decide (n ≥ 0) && _) = true
    rw [decide_eq_true (h n List.mem_cons_self), nn_ints fun x hx => h x (List.mem_cons_of_mem _ hx)]
    rfl
theorem sumD_ints : ∀ ns : List Int, sumD (ns.map PyData.int) = ns.sum
  | [] => rfl
  | n :: r => by
    show n + sumD _ = _
    rw [sumD_ints r, List.sum_cons]
theorem rowD_ints {ns : List Int} (h : ∀ n ∈ ns, 0 ≤ n) (l1 : 1 ≤ ns.length) (l2 : ns.length ≤ 12) (s0 : 0 < ns.sum) (s1 : ns.sum < 10 ^ 30) : rowD (.tuple (ns.map PyData.int)) = true := by
  show rowL _ = true
  unfold rowL
  rw [List.length_map, decide_eq_true l1, decide_eq_true l2, nn_ints h, sumD_ints, decide_eq_true s0, decide_eq_true s1]
  rfl
section
variable {P : Program} {w : World} {K : PySem.W.Frag} {mg : Str → Option Value} {base : Heap}
/-- a store that begins with a row -/
def spInit (C : Addr) : Sp := fun vs H Q _ => ∃ (x dx a : Addr) (ns : List Int), vs = [.ref x, .ref a] ∧ H x = some (.ins C dx []) ∧ H a = some (.tup (ns.map V.int)) ∧ (∀ n ∈ ns, 0 ≤ n) ∧ 1 ≤ ns.length ∧ ns.length ≤ 12 ∧ 0 < ns.sum ∧ ns.sum ≤ 100000 ∧
  ∀ H' ls lm la, (∀ b o, b ≠ x → H b = some o → H' b = some o) → H ls = none → H lm = none → H la = none → StA C H' x ls lm la [(a, ns)] [] [] → Q .non H'
theorem ok_init {f fR C : Addr} {fd fdR : FuncData} {k : Nat} {tM : Tok} (F : Fun K "__init__" "Store.__init__" sInit f fd) (ST : StT K C)
    (FR : Fun K "is_row" "is_row" sRow fR fdR) (bR : Binds K fdR ["thing"] []) (gR : mg "is_row" = some (.ref fR)) (GR : FnOk P w K mg base CX0 (k + 2) fR fdR ["thing"] spRow) (gM : mg "MOST_STORED" = some (.int 100000 tM)) (m_sum : mg "sum" = none) :
    FnOk P w K mg base CX0 (k + 3) f fd ["self", "row"] (spInit C) := by
  refine F.ok scInit (fun vs H Q E h => ?_) (fun cdv A outer s H vs Q E hr h => ?_)
  · obtain ⟨x, dx, a, ns, rfl, _⟩ := h
    rfl
  · obtain ⟨x, dx, a, ns, rfl, hx, ea, nn, l1, l2, s0, s1, want⟩ := h
    refine ⟨_, pss_cons (ps_if (PW.pt (pw_or (pt_not (pt_val (pe_call GR hr (by rfl) gR FR.kp bR .nil pass0 (pa_cons (pv 1) pa_nil)))) (pw_or1 (pt_cmpR op_gt (pe_callB (sumT rfl) (by rfl) m_sum (by decide +kernel) (pa_cons (pv 1) pa_nil)) (pe_glob (v := .int 100000) (by rfl) gM ⟨_, rfl⟩) (nomark _))))) pss_never pss_nil)
      (pss_cons (ps_fld (pv 0) (pe_lst (pa_cons (pv 1) pa_nil)) rfl)
      (pss_cons (ps_fld (pv 0) (pe_lst pa_nil) rfl)
      (pss_one (ps_fld (pv 0) pe_dnewK rfl)))), ?_⟩
    refine ⟨_, rfl, _, _, rfl, .tup ea (dd_ints ns), fun H1 sm => ⟨_, rfl, ?_⟩⟩
    rw [rowD_ints nn l1 l2 s0 (by omega)]
    have ea1 := sm _ _ ea
    have hx1 := sm _ _ hx
    refine iteF ⟨_, rfl, a, ns, rfl, SqT.of ea1, _, 100000, rfl, rfl, _, rfl, ?_⟩
    rw [decide_eq_false (show ¬ ns.sum > 100000 by omega)]
    refine iteF ⟨_, rfl, by show 1 ≤ sizeLine; decide, fun l nl => ?_⟩
    have xl : x ≠ l := ne_of_none hx1 nl
    have al : a ≠ l := ne_of_none ea1 nl
    refine ⟨_, rfl, x, C, dx, [], rfl, by rw [upd_ne xl]; exact hx1, ST.cl, ST.nS, by show 0 < 1000; decide, ?_⟩
    refine ⟨by show 0 ≤ sizeLine; decide, fun m nm => ?_⟩
    have xm : x ≠ m := fun z => by rw [z, upd_same] at nm; cases nm
    have lm : l ≠ m := fun z => by rw [z, upd_ne (by rw [← z]; exact xl.symm), upd_same] at nm; cases nm
    have nm1 : H1 m = none := by rw [upd_ne xm.symm, upd_ne lm.symm] at nm; exact nm
    refine ⟨_, rfl, x, C, dx, _, rfl, by rw [upd_ne xm, upd_same], ST.cl, ST.nM, by show 1 < 1000; decide, ?_⟩
    intro d nd
    have xd : x ≠ d := fun z => by rw [z, upd_same] at nd; cases nd
    have md : m ≠ d := fun z => by rw [z, upd_ne (by rw [← z]; exact xm.symm), upd_same] at nd; cases nd
    have ld : l ≠ d := fun z => by rw [← z, upd_ne xl.symm, upd_ne lm, upd_ne xl.symm, upd_same] at nd; cases nd
    have nd1 : H1 d = none := by rw [upd_ne xd.symm, upd_ne md.symm, upd_ne xd.symm, upd_ne ld.symm] at nd; exact nd
    refine ⟨_, rfl, x, C, dx, _, rfl, by rw [upd_ne xd, upd_same], ST.cl, ST.nA, ?_, ?_⟩
    · show (putF "made" (V.ref m) (putF "stood" (V.ref l) [])).length < 1000
      show (if ("stood" : Str) = "made" then (("stood" : Str), V.ref m) :: [] else (("stood" : Str), V.ref l) :: [(("made" : Str), V.ref m)]).length < 1000
      rw [if_neg st_ma]
      show 2 < 1000
      decide
    have z1 : ∀ {c : Addr}, H1 c = none → H c = none := fun h => sm.free h
    have ax : a ≠ x := fun z => by rw [z, hx1] at ea1; cases ea1
    have am : a ≠ m := ne_of_none ea1 nm1
    have ad : a ≠ d := ne_of_none ea1 nd1
    refine want _ l m d (fun b o nb e => ?_) (z1 nl) (z1 nm1) (z1 nd1) ⟨⟨dx, upd_same⟩, ⟨?_, fun e he => ?_⟩, ⟨?_, fun e he => nomatch he⟩, ?_, lm⟩
    · have e1 := sm _ _ e
      rw [upd_ne nb, upd_ne (ne_of_none e1 nd1), upd_ne nb, upd_ne (ne_of_none e1 nm1), upd_ne nb, upd_ne (ne_of_none e1 nl)]
      exact e1
    · rw [upd_ne xl.symm, upd_ne ld, upd_ne xl.symm, upd_ne lm, upd_ne xl.symm, upd_same]
      rfl
    · rw [List.mem_singleton.mp he]
      show _ = some (HO.tup (ns.map V.int))
      rw [upd_ne ax, upd_ne ad, upd_ne ax, upd_ne am, upd_ne ax, upd_ne al]
      exact ea1
    · rw [upd_ne xm.symm, upd_ne md, upd_ne xm.symm, upd_same]
      rfl
    · rw [upd_ne xd.symm, upd_same]
def spMRow (C : Addr) : Sp := fun vs H Q _ => ∃ (x ls lm la : Addr) (rs calls : List (Addr × List Int)) (r : Addr × List Int) (gs : List (Key × V)), vs = [.ref x] ∧ StA C H x ls lm la (rs ++ [r]) calls gs ∧ Q (.ref r.1) H
theorem ok_mrow {f C : Addr} {fd : FuncData} {k : Nat} (F : Fun K "row" "Store.row" sMRow f fd) (ST : StT K C) : FnOk P w K mg base CX0 (k + 1) f fd ["self"] (spMRow C) := by
  refine F.ok scMRow (fun vs H Q E h => ?_) (fun cdv A outer s H vs Q E hr h => ?_)
  · obtain ⟨x, ls, lm, la, rs, calls, r, gs, rfl, _⟩ := h
    rfl
  · obtain ⟨x, ls, lm, la, rs, calls, r, gs, rfl, S, q⟩ := h
    refine ⟨_, pss_one (ps_ret (pe_ix ix_list (pe_fld (pv 0) rfl) (pe_un un_neg pe_int) (fun _ _ => rfl))), ?_⟩
    obtain ⟨dx, hx⟩ := S.ins
    have el := S.stood.1
    refine ⟨_, rfl, x, C, dx, _, _, rfl, hx, ST.cl, ST.nS, sF_stood _ _ _, 1, rfl, ls, _, -1, .ref r.1, rfl, rfl, SqL.of el, ?_, q⟩
    rw [List.map_append]
    refine atI_neg1 (by rw [List.length_append]; show 1 ≤ _ + 1; omega) ?_
    rw [List.length_append, List.getElem?_append_right (by show _ ≤ (rs.map fun e => V.ref e.1).length + 1 - 1; omega)]
    show ([V.ref r.1])[(rs.map fun e => V.ref e.1).length + 1 - 1 - (rs.map fun e => V.ref e.1).length]? = _
    rw [show (rs.map fun e => V.ref e.1).length + 1 - 1 - (rs.map fun e => V.ref e.1).length = 0 by omega]
    rfl
/-- the last call taken back -/
def spMBack (C : Addr) : Sp := fun vs H Q _ => ∃ (x ls lm la : Addr) (rs cs : List (Addr × List Int)) (r c : Addr × List Int) (gs : List (Key × V)), vs = [.ref x] ∧ StA C H x ls lm la (rs ++ [r]) (cs ++ [c]) gs ∧
  ∀ H', (∀ b, b ≠ ls → b ≠ lm → H' b = H b) → StA C H' x ls lm la rs cs gs → Q .non H'
theorem ok_mback {f C : Addr} {fd : FuncData} {k : Nat} (F : Fun K "back" "Store.back" sMBack f fd) (ST : StT K C) : FnOk P w K mg base CX0 (k + 1) f fd ["self"] (spMBack C) := by
  refine F.ok scMBack (fun vs H Q E h => ?_) (fun cdv A outer s H vs Q E hr h => ?_)
  · obtain ⟨x, ls, lm, la, rs, cs, r, c, gs, rfl, _⟩ := h
    rfl
  · obtain ⟨x, ls, lm, la, rs, cs, r, c, gs, rfl, S, q⟩ := h
    refine ⟨_, pss_cons (ps_if (pt_not (pt_truth (pe_fld (pv 0) rfl) (by intro _; rfl))) pss_never pss_nil)
      (pss_cons (ps_expr (pe_bm0 PySem.F.plainAttrs_list PySem.F.slot_list_pop PySem.F.type_list_pop mt_pop (pe_fld (pv 0) rfl)))
      (pss_one (ps_expr (pe_bm0 PySem.F.plainAttrs_list PySem.F.slot_list_pop PySem.F.type_list_pop mt_pop (pe_fld (pv 0) rfl))))), ?_⟩
    obtain ⟨dx, hx⟩ := id S.ins
    have xls : x ≠ ls := fun z => by rw [z, S.stood.1] at hx; cases hx
    have xlm : x ≠ lm := fun z => by rw [z, S.made.1] at hx; cases hx
    have lastOf : ∀ (es : List (Addr × List Int)) (e : Addr × List Int), ((es ++ [e]).map fun e => V.ref e.1)[((es ++ [e]).map fun e => V.ref e.1).length - 1]? = some (V.ref e.1) ∧ ((es ++ [e]).map fun e => V.ref e.1).dropLast = es.map fun e => V.ref e.1 := fun es e => by
      rw [List.map_append]
      refine ⟨?_, List.dropLast_concat⟩
      rw [List.length_append, List.getElem?_append_right (by show _ ≤ _ + 1 - 1; omega)]
      show ([V.ref e.1])[_ + 1 - 1 - _]? = _
      rw [show (es.map fun e => V.ref e.1).length + 1 - 1 - (es.map fun e => V.ref e.1).length = 0 by omega]
      rfl
    have m1 := lastOf cs c
    have m2 := lastOf rs r
    refine ⟨_, rfl, x, C, dx, _, _, rfl, hx, ST.cl, ST.nM, sF_made _ _ _, true, .inl ⟨_, SqL.of S.made.1, by rw [List.map_append]; cases cs <;> rfl⟩, iteF ?_⟩
    refine ⟨_, rfl, x, C, dx, _, _, rfl, hx, ST.cl, ST.nM, sF_made _ _ _, .inl ⟨rfl, _, SqL.of S.made.1⟩, lm, _, _, rfl, rfl, S.made.1, m1.1, ?_⟩
    rw [m1.2]
    have es1 : upd H lm (.lst (cs.map fun e => V.ref e.1)) ls = some (.lst ((rs ++ [r]).map fun e => V.ref e.1)) := by rw [upd_ne S.ne]; exact S.stood.1
    refine ⟨_, rfl, x, C, dx, _, _, rfl, by rw [upd_ne xlm]; exact hx, ST.cl, ST.nS, sF_stood _ _ _, .inl ⟨rfl, _, SqL.of es1⟩, ls, _, _, rfl, rfl, es1, m2.1, ?_⟩
    rw [m2.2]
    have k2 : ∀ b, b ≠ ls → b ≠ lm → upd (upd H lm (.lst (cs.map fun e => V.ref e.1))) ls (.lst (rs.map fun e => V.ref e.1)) b = H b := fun b h1 h2 => by rw [upd_ne h1, upd_ne h2]
    have tu : ∀ {b : Addr} {xs : List V}, H b = some (.tup xs) → upd (upd H lm (.lst (cs.map fun e => V.ref e.1))) ls (.lst (rs.map fun e => V.ref e.1)) b = some (.tup xs) := fun {b xs} e => by
      rw [k2 b (fun z => by rw [z, S.stood.1] at e; cases e) (fun z => by rw [z, S.made.1] at e; cases e)]; exact e
    refine q _ k2 ⟨⟨dx, by rw [k2 x xls xlm]; exact hx⟩, ⟨upd_same, fun e he => tu (S.stood.2 e (List.mem_append_left _ he))⟩, ⟨by rw [upd_ne S.ne.symm, upd_same], fun e he => tu (S.made.2 e (List.mem_append_left _ he))⟩, ?_, S.ne⟩
    rw [k2 la (fun z => by have := S.aims; rw [z, S.stood.1] at this; cases this) (fun z => by have := S.aims; rw [z, S.made.1] at this; cases this)]
    exact S.aims
end
end K56

namespace K56
open PySem PySem.Spec PyProof.Rows L2 MG LamX
abbrev sMGive : Stmt := inClass sStore 2
abbrev sMAim : Stmt := inClass sStore 7
abbrev sMState : Stmt := inClass sStore 8
theorem scMGive : FnScope ["self", "i", "j"] ["self", "i", "j"] (defScope sMGive) := ⟨rfl, rfl, rfl, by decide +kernel, rfl, by decide +kernel, by decide +kernel⟩
theorem scMAim : FnScope ["self", "name", "other"] ["self", "name", "other"] (defScope sMAim) := ⟨rfl, rfl, rfl, by decide +kernel, rfl, by decide +kernel, by decide +kernel⟩
theorem scMState : FnScope ["self", "name"] ["self", "name"] (defScope sMState) := ⟨rfl, rfl, rfl, by decide +kernel, rfl, by decide +kernel, by decide +kernel⟩
section
variable {P : Program} {w : World} {K : PySem.W.Frag} {mg : Str → Option Value} {base : Heap}
/-- a deed that may be done -/
def spMGive (C : Addr) : Sp := fun vs H Q _ => ∃ (x ls lm la : Addr) (rs calls : List (Addr × List Int)) (a : Addr) (ns : List Int) (gs : List (Key × V)) (i j : Nat), vs = [.ref x, .int i, .int j] ∧ StA C H x ls lm la (rs ++ [(a, ns)]) calls gs ∧ ns.length ≤ 40 ∧ MayG ns i j ∧ rs.length ≤ 1000 ∧ calls.length ≤ 1000 ∧
  ∀ t c H', (∀ b o, b ≠ ls → b ≠ lm → H b = some o → H' b = some o) → H t = none → H c = none → StA C H' x ls lm la (rs ++ [(a, ns)] ++ [(t, deed ns i j)]) (calls ++ [(c, [(i : Int), (j : Int)])]) gs → Q .non H'
theorem ok_mgive {f fW fA C : Addr} {fd fdW fdA : FuncData} {k : Nat} (F : Fun K "give" "Store.give" sMGive f fd) (ST : StT K C)
    (FW : Fun K "row" "Store.row" sMRow fW fdW) (bW : Binds K fdW ["self"] []) (mW : Meth K C "row" fW)
    (FA : Fun K "after_deed" "after_deed" sAfterD fA fdA) (bA : Binds K fdA ["row", "i", "j"] []) (gA : mg "after_deed" = some (.ref fA)) (GA : FnOk P w K mg base CX0 (k + 5) fA fdA ["row", "i", "j"] spAfterD) :
    FnOk P w K mg base CX0 (k + 6) f fd ["self", "i", "j"] (spMGive C) := by
  have GW : FnOk P w K mg base CX0 (k + 1) fW fdW ["self"] (spMRow C) := ok_mrow FW ST
  refine F.ok scMGive (fun vs H Q E h => ?_) (fun cdv A outer s H vs Q E hr h => ?_)
  · obtain ⟨x, ls, lm, la, rs, calls, a, ns, gs, i, j, rfl, _⟩ := h
    rfl
  · obtain ⟨x, ls, lm, la, rs, calls, a, ns, gs, i, j, rfl, S, l40, may, lr, lc, want⟩ := h
    have hr1 := hr.mono (show k + 1 ≤ k + 5 by omega)
    refine ⟨_, pss_cons (ps_expr (pe_bm PySem.F.plainAttrs_list PySem.F.slot_list_append PySem.F.type_list_append mt_append (pe_fld (pv 0) rfl) (pa_cons
        (pe_call GA hr (by rfl) gA FA.kp bA .nil pass0 (pa_cons (pe_meth0 (pv 0) ST.cl mW GW hr1 bW .nil pass0) (pa_cons (pv 1) (pa_cons (pv 2) pa_nil)))) pa_nil)))
      (pss_one (ps_expr (pe_bm PySem.F.plainAttrs_list PySem.F.slot_list_append PySem.F.type_list_append mt_append (pe_fld (pv 0) rfl) (pa_cons (pe_tup (pa_cons (pv 1) (pa_cons (pv 2) pa_nil))) pa_nil)))), ?_⟩
    obtain ⟨dx, hx⟩ := id S.ins
    have noR : (sF ls lm la).lookup ("row" : Str) = none := sF_no _ _ _ (by decide +kernel) (by decide +kernel) (by decide +kernel)
    have ea : H a = some (.tup (ns.map V.int)) := S.stood.2 (a, ns) (List.mem_append_right _ List.mem_cons_self)
    refine ⟨_, rfl, x, C, dx, _, _, rfl, hx, ST.cl, ST.nS, sF_stood _ _ _, .inl ⟨rfl, _, SqL.of S.stood.1⟩, _, rfl, x, dx, _, rfl, hx, noR, x, ls, lm, la, rs, calls, (a, ns), gs, rfl, S, _, rfl, _, rfl, a, ns, i, j, rfl, ea, l40, may, fun H1 t s3 nt0 et => ?_⟩
    have S1 := S.same s3
    have nls : ls ≠ t := ne_of_none S.stood.1 nt0
    have nlm : lm ≠ t := ne_of_none S.made.1 nt0
    refine ⟨ls, _, .ref t, rfl, rfl, S1.stood.1, by rw [List.length_map, List.length_append, sizeLine_eq]; show rs.length + 1 < _; omega, ?_⟩
    obtain ⟨dx1, hx1⟩ := S1.ins
    have xls : x ≠ ls := fun z => by rw [z, S1.stood.1] at hx1; cases hx1
    have xlm : x ≠ lm := fun z => by rw [z, S1.made.1] at hx1; cases hx1
    have als : la ≠ ls := fun z => by have := S1.aims; rw [z, S1.stood.1] at this; cases this
    have alm : la ≠ lm := fun z => by have := S1.aims; rw [z, S1.made.1] at this; cases this
    have emap : (rs ++ [(a, ns)]).map (fun e => V.ref e.1) ++ [V.ref t] = (rs ++ [(a, ns)] ++ [(t, deed ns i j)]).map fun e => V.ref e.1 := by rw [List.map_append (l₁ := rs ++ [(a, ns)])]; rfl
    rw [emap]
    have k2 : ∀ b, b ≠ ls → upd H1 ls (.lst ((rs ++ [(a, ns)] ++ [(t, deed ns i j)]).map fun e => V.ref e.1)) b = H1 b := fun b h => upd_ne h
    have es2 : upd H1 ls (.lst ((rs ++ [(a, ns)] ++ [(t, deed ns i j)]).map fun e => V.ref e.1)) ls = some (.lst ((rs ++ [(a, ns)] ++ [(t, deed ns i j)]).map fun e => V.ref e.1)) := upd_same
    generalize upd H1 ls (HO.lst ((rs ++ [(a, ns)] ++ [(t, deed ns i j)]).map fun e => V.ref e.1)) = H2 at k2 es2 ⊢
    have em2 : H2 lm = some (.lst (calls.map fun e => V.ref e.1)) := by rw [k2 lm S.ne.symm]; exact S1.made.1
    refine ⟨_, rfl, x, C, dx1, _, _, rfl, by rw [k2 x xls]; exact hx1, ST.cl, ST.nM, sF_made _ _ _, .inl ⟨rfl, _, SqL.of em2⟩, _, rfl, _, rfl, by show 2 ≤ sizeLine; decide, fun c nc => ?_⟩
    have nc1 : H1 c = none := by rw [← k2 c (fun z => by rw [z, es2] at nc; cases nc)]; exact nc
    have lmc : lm ≠ c := ne_of_none em2 nc
    have lsc : ls ≠ c := ne_of_none es2 nc
    refine ⟨lm, _, .ref c, rfl, rfl, by rw [upd_ne lmc]; exact em2, by rw [List.length_map, sizeLine_eq]; omega, ?_⟩
    have emap2 : calls.map (fun e => V.ref e.1) ++ [V.ref c] = (calls ++ [(c, [(i : Int), (j : Int)])]).map fun e => V.ref e.1 := by rw [List.map_append]; rfl
    rw [emap2]
    have tupk : ∀ {b : Addr} {xs : List V}, H1 b = some (.tup xs) → upd (upd H2 c (.tup [.int i, .int j])) lm (.lst ((calls ++ [(c, [(i : Int), (j : Int)])]).map fun e => V.ref e.1)) b = some (.tup xs) := fun {b xs} e => by
      rw [upd_ne (fun z => by rw [z, S1.made.1] at e; cases e), upd_ne (ne_of_none e nc1), k2 b (fun z => by rw [z, S1.stood.1] at e; cases e)]
      exact e
    refine want t c _ (fun b o h1 h2 e => ?_) nt0 (s3.free nc1) ⟨⟨dx1, ?_⟩, ⟨?_, fun e he => ?_⟩, ⟨upd_same, fun e he => ?_⟩, ?_, S.ne⟩
    · have e1 := s3 _ _ e
      rw [upd_ne h2, upd_ne (ne_of_none e1 nc1), k2 b h1]
      exact e1
    · rw [upd_ne xlm, upd_ne (ne_of_none hx1 nc1), k2 x xls]; exact hx1
    · rw [upd_ne S.ne, upd_ne lsc]; exact es2
    · rcases List.mem_append.mp he with h | h
      · exact tupk (S1.stood.2 e h)
      · rw [List.mem_singleton.mp h]; exact tupk et
    · rcases List.mem_append.mp he with h | h
      · exact tupk (S1.made.2 e h)
      · rw [List.mem_singleton.mp h, upd_ne lmc.symm, upd_same]; rfl
    · rw [upd_ne alm, upd_ne (ne_of_none S1.aims nc1), k2 la als]; exact S1.aims
theorem nm_len {z : Str} (h : nmB z = true) : z.length ≤ 1000 := by
  unfold nmB at h
  have := of_decide_eq_true (Bool.and_eq_true_iff.mp h).1
  omega
/-- a goal kept -/
def spMAim (C : Addr) : Sp := fun vs H Q _ => ∃ (x ls lm la : Addr) (rs calls : List (Addr × List Int)) (a b : Addr) (ns os : List Int) (gs : List (Key × V)) (z : Str), vs = [.ref x, .str z, .ref b] ∧ StA C H x ls lm la (rs ++ [(a, ns)]) calls gs ∧ nmB z = true ∧ H b = some (.tup (os.map V.int)) ∧ (∀ n ∈ os, 0 ≤ n) ∧ 1 ≤ os.length ∧ os.length ≤ 12 ∧ 0 < os.sum ∧ os.sum < 10 ^ 30 ∧ os.length = ns.length ∧ gs.length ≤ 1000 ∧
  ∀ H', (∀ c o, c ≠ la → H c = some o → H' c = some o) → StA C H' x ls lm la (rs ++ [(a, ns)]) calls (putK gs (.inr z) (.ref b)) → Q .non H'
theorem ok_maim {f fW fN fR C : Addr} {fd fdW fdN fdR : FuncData} {k : Nat} (F : Fun K "aim" "Store.aim" sMAim f fd) (ST : StT K C)
    (FW : Fun K "row" "Store.row" sMRow fW fdW) (bW : Binds K fdW ["self"] []) (mW : Meth K C "row" fW)
    (FN : Fun K "is_name" "is_name" sNa fN fdN) (bN : Binds K fdN ["thing"] []) (gN : mg "is_name" = some (.ref fN)) (GN : FnOk P w K mg base CX0 (k + 2) fN fdN ["thing"] spNa)
    (FR : Fun K "is_row" "is_row" sRow fR fdR) (bR : Binds K fdR ["thing"] []) (gR : mg "is_row" = some (.ref fR)) (GR : FnOk P w K mg base CX0 (k + 2) fR fdR ["thing"] spRow) (m_len : mg "len" = none) :
    FnOk P w K mg base CX0 (k + 3) f fd ["self", "name", "other"] (spMAim C) := by
  have GW : FnOk P w K mg base CX0 (k + 1) fW fdW ["self"] (spMRow C) := ok_mrow FW ST
  refine F.ok scMAim (fun vs H Q E h => ?_) (fun cdv A outer s H vs Q E hr h => ?_)
  · obtain ⟨x, ls, lm, la, rs, calls, a, b, ns, os, gs, z, rfl, _⟩ := h
    rfl
  · obtain ⟨x, ls, lm, la, rs, calls, a, b, ns, os, gs, z, rfl, S, nz, eb, nn, l1, l2, s0, s1, le, lg, want⟩ := h
    have hr1 := hr.mono (show k + 1 ≤ k + 2 by omega)
    have hu : (A.deeper (envOfC "Store.aim" (defScope sMAim) s.heap.objs.size f cdv)).units + 1 < cLine := by have := hr.un; omega
    refine ⟨_, pss_cons (ps_if (pt_not (pt_val (pe_call GN hr (by rfl) gN FN.kp bN .nil pass0 (pa_cons (pv 1) pa_nil)))) pss_never pss_nil)
      (pss_cons (ps_if (PW.pt (pw_or (pt_not (pt_val (pe_call GR hr (by rfl) gR FR.kp bR .nil pass0 (pa_cons (pv 2) pa_nil)))) (pw_or1 (pt_cmpR op_ne (pe_callB call_len_seq (by rfl) m_len PySem.boot_len (pa_cons (pv 2) pa_nil)) (pe_callB call_len_seq (by rfl) m_len PySem.boot_len (pa_cons (pe_meth0 (pv 0) ST.cl mW GW hr1 bW .nil pass0) pa_nil)) (nomark _))))) pss_never pss_nil)
      (pss_one (ps_dput hu (pe_fld (pv 0) rfl) (pv 1) (pv 2) rfl))), ?_⟩
    have lz : z.length ≤ 1000 := nm_len nz
    refine ⟨_, rfl, z, rfl, lz, fun H1 sm => ⟨_, rfl, ?_⟩⟩
    rw [nz]
    refine iteF ⟨_, rfl, _, _, rfl, .tup (sm _ _ eb) (dd_ints os), fun H2 sm2 => ⟨_, rfl, ?_⟩⟩
    rw [rowD_ints nn l1 l2 s0 s1]
    have sm3 := sm.trans sm2
    have S2 := S.same sm3
    obtain ⟨dx, hx⟩ := id S2.ins
    have noR : (sF ls lm la).lookup ("row" : Str) = none := sF_no _ _ _ (by decide +kernel) (by decide +kernel) (by decide +kernel)
    have ea : H2 a = some (.tup (ns.map V.int)) := S2.stood.2 (a, ns) (List.mem_append_right _ List.mem_cons_self)
    refine iteF ⟨_, rfl, b, _, rfl, .inr (SqT.of (sm3 _ _ eb)), _, rfl, x, dx, _, rfl, hx, noR, x, ls, lm, la, rs, calls, (a, ns), gs, rfl, S2, a, _, rfl, .inr (SqT.of ea), rfl, _, rfl, ?_⟩
    rw [List.length_map, List.length_map, decV, decN, notD, decide_eq_false (show ¬ ¬ os.length = ns.length from fun z => z le)]
    refine iteF ⟨_, rfl, _, rfl, x, C, dx, _, _, rfl, hx, ST.cl, ST.nA, sF_aims _ _ _, _, rfl, la, _, rfl, .inl ⟨gs, .inr z, S2.aims, rfl, by rw [sizeLine_eq]; omega, rfl⟩, ?_⟩
    have xla : x ≠ la := fun e => by have := S2.aims; rw [← e, hx] at this; cases this
    have lsa : ls ≠ la := fun e => by have := S2.aims; rw [← e, S2.stood.1] at this; cases this
    have lma : lm ≠ la := fun e => by have := S2.aims; rw [← e, S2.made.1] at this; cases this
    have tu : ∀ {c : Addr} {xs : List V}, H2 c = some (.tup xs) → upd H2 la (.dK (putK gs (.inr z) (.ref b))) c = some (.tup xs) := fun {c xs} e => by
      rw [upd_ne (fun z => by rw [z, S2.aims] at e; cases e)]; exact e
    exact want _ (fun c o nc e => by rw [upd_ne nc]; exact sm3 _ _ e) ⟨⟨dx, by rw [upd_ne xla]; exact hx⟩, ⟨by rw [upd_ne lsa]; exact S2.stood.1, fun e he => tu (S2.stood.2 e he)⟩, ⟨by rw [upd_ne lma]; exact S2.made.1, fun e he => tu (S2.made.2 e he)⟩, upd_same, S2.ne⟩
/-- how a goal stands -/
def spMState (C : Addr) : Sp := fun vs H Q _ => ∃ (x ls lm la : Addr) (rs calls : List (Addr × List Int)) (a b : Addr) (ns os : List Int) (gs : List (Key × V)) (z : Str), vs = [.ref x, .str z] ∧ StA C H x ls lm la (rs ++ [(a, ns)]) calls gs ∧ nmB z = true ∧ valV gs (.inr z) = some (.ref b) ∧ Row H a ns ∧ Row H b os ∧ ns.sum ≤ 100000 ∧
  ∀ H', Same H H' → Q (.str (stW ns os)) H'
theorem ok_mstate {f fW fN fS C : Addr} {fd fdW fdN fdS : FuncData} {k : Nat} (F : Fun K "state" "Store.state" sMState f fd) (ST : StT K C)
    (FW : Fun K "row" "Store.row" sMRow fW fdW) (bW : Binds K fdW ["self"] []) (mW : Meth K C "row" fW)
    (FN : Fun K "is_name" "is_name" sNa fN fdN) (bN : Binds K fdN ["thing"] []) (gN : mg "is_name" = some (.ref fN)) (GN : FnOk P w K mg base CX0 (k + 2) fN fdN ["thing"] spNa)
    (FS : Fun K "state_between" "state_between" sSb fS fdS) (bS : Binds K fdS ["row", "goal"] []) (gS : mg "state_between" = some (.ref fS)) (GS : FnOk P w K mg base CX0 (k + 8) fS fdS ["row", "goal"] spSb) :
    FnOk P w K mg base CX0 (k + 9) f fd ["self", "name"] (spMState C) := by
  have GW : FnOk P w K mg base CX0 (k + 1) fW fdW ["self"] (spMRow C) := ok_mrow FW ST
  refine F.ok scMState (fun vs H Q E h => ?_) (fun cdv A outer s H vs Q E hr h => ?_)
  · obtain ⟨x, ls, lm, la, rs, calls, a, b, ns, os, gs, z, rfl, _⟩ := h
    rfl
  · obtain ⟨x, ls, lm, la, rs, calls, a, b, ns, os, gs, z, rfl, S, nz, ez, ra, rb, hs, want⟩ := h
    have hr1 := hr.mono (show k + 1 ≤ k + 8 by omega)
    have hr2 := hr.mono (show k + 2 ≤ k + 8 by omega)
    have hu : (A.deeper (envOfC "Store.state" (defScope sMState) s.heap.objs.size f cdv)).units + 1 < cLine := by have := hr.un; omega
    refine ⟨_, pss_cons (ps_if (PW.pt (pw_or (pt_not (pt_val (pe_call GN hr2 (by rfl) gN FN.kp bN .nil pass0 (pa_cons (pv 1) pa_nil)))) (pw_or1 (pt_cmp (pc_dnotin hu (pv 1) (pe_fld (pv 0) rfl)))))) pss_never pss_nil)
      (pss_one (ps_ret (pe_call GS hr (by rfl) gS FS.kp bS .nil pass0 (pa_cons (pe_meth0 (pv 0) ST.cl mW GW hr1 bW .nil pass0) (pa_cons (pe_dget hu (pe_fld (pv 0) rfl) (pv 1) (fun _ _ => rfl)) pa_nil))))), ?_⟩
    have lz : z.length ≤ 1000 := nm_len nz
    refine ⟨_, rfl, z, rfl, lz, fun H1 sm => ⟨_, rfl, ?_⟩⟩
    rw [nz]
    have S1 := S.same sm
    obtain ⟨dx, hx⟩ := id S1.ins
    have noR : (sF ls lm la).lookup ("row" : Str) = none := sF_no _ _ _ (by decide +kernel) (by decide +kernel) (by decide +kernel)
    refine iteF ⟨_, rfl, _, rfl, x, C, dx, _, _, rfl, hx, ST.cl, ST.nA, sF_aims _ _ _, la, _, rfl, .k (k := .inr z) S1.aims, _, rfl, ?_⟩
    rw [ez]
    refine iteF ⟨_, rfl, x, dx, _, rfl, hx, noR, x, ls, lm, la, rs, calls, (a, ns), gs, rfl, S1, _, rfl, x, C, dx, _, _, rfl, hx, ST.cl, ST.nA, sF_aims _ _ _, _, rfl, la, _, rfl, ez ▸ .k (k := .inr z) S1.aims, a, b, ns, os, rfl, ra.same sm, rb.same sm, hs, fun H2 s2 => want _ (sm.trans s2)⟩
end
end K56

/-! MOb: sorted names; a dict by names -/
namespace MG
open PySem PySem.Spec PyProof.Rows L2
theorem srt_uniq {α : Type} {le : α → α → Prop} (anti : ∀ a b, le a b → le b a → a = b) : ∀ {xs ys : List α}, xs.Perm ys → xs.Pairwise le → ys.Pairwise le → xs = ys
  | [], ys, p, _, _ => (List.nil_perm.mp p).symm
  | x :: r, [], p, _, _ => absurd (List.perm_nil.mp p) (fun z => nomatch z)
  | x :: r, y :: t, p, hx, hy => by
    have e : x = y := by
      have h1 : x ∈ y :: t := p.subset List.mem_cons_self
      have h2 : y ∈ x :: r := p.symm.subset List.mem_cons_self
      rcases List.mem_cons.mp h1 with h | h
      · exact h
      · rcases List.mem_cons.mp h2 with g | g
        · exact g.symm
        · exact anti _ _ ((List.pairwise_cons.mp hx).1 y g) ((List.pairwise_cons.mp hy).1 x h)
    subst e
    rw [srt_uniq anti (List.Perm.cons_inv p) (List.pairwise_cons.mp hx).2 (List.pairwise_cons.mp hy).2]
theorem lt_anti : ∀ a b : List Nat, ltCps a b = false → ltCps b a = false → a = b
  | [], [], _, _ => rfl
  | [], b :: s, h, _ => by simp [ltCps] at h
  | a :: r, [], _, h => by simp [ltCps] at h
  | a :: r, b :: s, h1, h2 => by
    unfold ltCps at h1 h2
    by_cases c : a = b
    · subst c
      simp at h1 h2
      rw [lt_anti r s h1 h2]
    · by_cases d : a < b
      · simp [d] at h1
      · have : b < a := by omega
        simp [this] at h2
theorem le_trans : ∀ a b c : List Nat, ltCps b a = false → ltCps c b = false → ltCps c a = false
  | [], [], [], _, _ => rfl
  | [], [], _ :: _, _, _ => rfl
  | [], _ :: _, [], _, h => by simp [ltCps] at h
  | [], _ :: _, _ :: _, _, _ => rfl
  | _ :: _, [], [], h, _ => h
  | _ :: _, [], _ :: _, h, _ => by simp [ltCps] at h
  | _ :: _, _ :: _, [], _, h => by simp [ltCps] at h
  | x :: r, y :: s, z :: t, h1, h2 => by
    unfold ltCps at h1 h2 ⊢
    have a1 : x ≤ y := by
      by_cases d : y < x
      · simp [d] at h1
      · omega
    have a2 : y ≤ z := by
      by_cases d : z < y
      · simp [d] at h2
      · omega
    by_cases e : z = x
    · have e1 : y = x := by omega
      subst e
      subst e1
      simp at h1 h2 ⊢
      exact le_trans r s t h1 h2
    · simp [e, show ¬ z < x by omega]
theorem sortedS_pw : ∀ {ys : List Str}, sortedS ys = true → ys.Pairwise fun a b => ltCps b.cps.toList a.cps.toList = false
  | [], _ => .nil
  | x :: r, h => by
    have go : ∀ (r : List Str) (x : Str), risingS x r = true → (x :: r).Pairwise fun a b => ltCps b.cps.toList a.cps.toList = false := fun r => by
      induction r with
      | nil => intro x _; exact List.pairwise_singleton _ _
      | cons y t ih =>
        intro x h
        unfold risingS at h
        obtain ⟨h1, h2⟩ := Bool.and_eq_true_iff.mp h
        have hp := ih y h2
        have h1' : ltCps y.cps.toList x.cps.toList = false := by simpa using h1
        refine List.pairwise_cons.mpr ⟨fun z hz => ?_, hp⟩
        rcases List.mem_cons.mp hz with rfl | hz
        · exact h1'
        · exact le_trans _ _ _ h1' ((List.pairwise_cons.mp hp).1 z hz)
    exact go r x h
theorem sortedS_uniq {xs ys : List Str} (p : xs.Perm ys) (hx : sortedS xs = true) (hy : sortedS ys = true) : xs = ys :=
  srt_uniq (fun a b h1 h2 => by
    have := lt_anti _ _ h2 h1
    cases a; cases b
    simp at this
    rw [this]) p (sortedS_pw hx) (sortedS_pw hy)
/-- a goal: its name, where it lies, its row -/
def gK (e : Str × Addr × List Int) : Key × V := (.inr e.1, .ref e.2.1)
theorem gK_keys (es : List (Str × Addr × List Int)) : (es.map gK).map (·.1) = (es.map Prod.fst).map Sum.inr := by
  rw [List.map_map, List.map_map]
  rfl
theorem gK_get : ∀ {es : List (Str × Addr × List Int)} {e : Str × Addr × List Int}, (es.map Prod.fst).Nodup → e ∈ es → valV (es.map gK) (.inr e.1) = some (.ref e.2.1)
  | x :: r, e, nd, h => by
    rw [List.map_cons]
    rcases List.mem_cons.mp h with rfl | h
    · exact valV_pos rfl
    · rw [List.map_cons, List.nodup_cons] at nd
      rw [valV_neg (fun z => nd.1 (by rw [Sum.inr.inj (show (Sum.inr x.1 : Key) = .inr e.1 from z)]; exact List.mem_map.mpr ⟨e, h, rfl⟩))]
      exact gK_get nd.2 h
theorem gK_none : ∀ {es : List (Str × Addr × List Int)} {z : Str}, z ∉ es.map Prod.fst → valV (es.map gK) (.inr z) = none
  | [], _, _ => rfl
  | x :: r, z, h => by
    rw [List.map_cons, List.mem_cons, not_or] at h
    rw [List.map_cons, valV_neg (fun e => h.1 (Sum.inr.inj (show (Sum.inr x.1 : Key) = .inr z from e)).symm)]
    exact gK_none h.2
theorem gK_put {es : List (Str × Addr × List Int)} {z : Str} {b : Addr} (os : List Int) (h : z ∉ es.map Prod.fst) : putK (es.map gK) (.inr z) (.ref b) = (es ++ [(z, b, os)]).map gK := by
  rw [putK_new _ (gK_none h), List.map_append]
  rfl
/-- what is said of a goal by its name -/
def byN (es : List (Str × Addr × List Int)) (z : Str) : List Int := match es.find? (fun e => decide (e.1 = z)) with | some e => e.2.2 | none => []
theorem byN_mem {es : List (Str × Addr × List Int)} {e : Str × Addr × List Int} (nd : (es.map Prod.fst).Nodup) (h : e ∈ es) : byN es e.1 = e.2.2 := by
  unfold byN
  have : es.find? (fun x => decide (x.1 = e.1)) = some e := by
    induction es with
    | nil => exact nomatch h
    | cons x r ih =>
      rw [List.map_cons, List.nodup_cons] at nd
      rcases List.mem_cons.mp h with rfl | h
      · rw [List.find?_cons, decide_eq_true rfl]
      · rw [List.find?_cons, decide_eq_false (show ¬ x.1 = e.1 from fun z => nd.1 (z ▸ List.mem_map.mpr ⟨e, h, rfl⟩))]
        exact ih nd.2 h
  rw [this]
/-- tuples of two texts -/
def PrSt (H : Hp) (ts : List Addr) (cs : List (Str × Str)) : Prop := ts.length = cs.length ∧ ∀ (i : Nat) (t : Addr) (c : Str × Str), ts[i]? = some t → cs[i]? = some c → H t = some (.tup [.str c.1, .str c.2])
theorem PrSt.same {H H' : Hp} {ts : List Addr} {cs : List (Str × Str)} (h : PrSt H ts cs) (s : Same H H') : PrSt H' ts cs := ⟨h.1, fun i t c a b => s _ _ (h.2 i t c a b)⟩
theorem PrSt.nil {H : Hp} : PrSt H [] [] := ⟨rfl, fun i t c h => by cases h⟩
theorem PrSt.snoc {H : Hp} {ts : List Addr} {cs : List (Str × Str)} {t : Addr} {c : Str × Str} (h : PrSt H ts cs) (e : H t = some (.tup [.str c.1, .str c.2])) : PrSt H (ts ++ [t]) (cs ++ [c]) := by
  refine ⟨by rw [List.length_append, List.length_append, h.1]; rfl, fun i t' c' h1 h2 => ?_⟩
  by_cases hi : i < ts.length
  · rw [List.getElem?_append_left hi] at h1
    rw [List.getElem?_append_left (h.1 ▸ hi)] at h2
    exact h.2 i t' c' h1 h2
  · rw [List.getElem?_append_right (by omega)] at h1
    rw [List.getElem?_append_right (by rw [← h.1]; omega), ← h.1] at h2
    cases hz : i - ts.length with
    | zero => rw [hz] at h1 h2; cases h1; cases h2; exact e
    | succ m => rw [hz] at h1; cases h1
end MG

namespace K56
open PySem PySem.Spec PyProof.Rows L2 MG LamX
abbrev sMGoals : Stmt := inClass sStore 9
abbrev sMCalls : Stmt := inClass sStore 5
theorem scMGoals : FnScope ["self", "name"] ["self"] (defScope sMGoals) := ⟨rfl, rfl, rfl, by decide +kernel, rfl, by decide +kernel, by decide +kernel⟩
theorem scMCalls : FnScope ["self"] ["self"] (defScope sMCalls) := ⟨rfl, rfl, rfl, by decide +kernel, rfl, by decide +kernel, by decide +kernel⟩
/-- goals that are well kept -/
structure GoOk (H : Hp) (es : List (Str × Addr × List Int)) : Prop where
  nm : ∀ e ∈ es, nmB e.1 = true
  rw : ∀ e ∈ es, Row H e.2.1 e.2.2
  nd : (es.map Prod.fst).Nodup
  few : es.length < 64
theorem GoOk.same {H H' : Hp} {es : List (Str × Addr × List Int)} (h : GoOk H es) (s : Same H H') : GoOk H' es := ⟨h.nm, fun e he => (h.rw e he).same s, h.nd, h.few⟩
theorem deed_pos {r : List Int} {i j : Nat} (h : MayG r i j) : ∃ n ∈ deed r i j, 0 < n := by
  have hj : j < (deed r i j).length := by rw [deed_len]; exact h.hj
  refine ⟨(deed r i j).getD j 0, MG.getD_mem hj, ?_⟩
  unfold deed
  rw [getD_set (by rw [List.length_set]; exact h.hj), if_pos rfl]
  have := h.pj
  omega
theorem decS (a b : Str) : decide (V.str a = V.str b) = decide (a = b) := by
  rw [Bool.eq_iff_iff, decide_eq_true_iff, decide_eq_true_iff]
  exact ⟨fun h => V.str.inj h, fun h => by rw [h]⟩
section
variable {P : Program} {w : World} {K : PySem.W.Frag} {mg : Str → Option Value} {base : Heap}
/-- the goals by their names, each with how it stands -/
def spMGoals (C : Addr) : Sp := fun vs H Q _ => ∃ (x ls lm la : Addr) (rs calls : List (Addr × List Int)) (a : Addr) (ns : List Int) (es : List (Str × Addr × List Int)), vs = [.ref x] ∧ StA C H x ls lm la (rs ++ [(a, ns)]) calls (es.map gK) ∧ Row H a ns ∧ ns.sum ≤ 100000 ∧ GoOk H es ∧
  ∀ H' p ts ys, Same H H' → H p = none → H' p = some (.tup (ts.map V.ref)) → PrSt H' ts (ys.map fun z => (z, stW ns (byN es z))) → ys.Perm (es.map Prod.fst) → sortedS ys = true → Q (.ref p) H'
theorem ok_mgoals {f fS C : Addr} {fd fdS : FuncData} {k : Nat} (F : Fun K "goals" "Store.goals" sMGoals f fd) (ST : StT K C)
    (FS : Fun K "state" "Store.state" sMState fS fdS) (bS : Binds K fdS ["self", "name"] []) (mS : Meth K C "state" fS) (GS : FnOk P w K mg base CX0 (k + 9) fS fdS ["self", "name"] (spMState C)) (m_tuple : mg "tuple" = none) (m_sorted : mg "sorted" = none) :
    FnOk P w K mg base CX0 (k + 10) f fd ["self"] (spMGoals C) := by
  refine F.ok scMGoals (fun vs H Q E h => ?_) (fun cdv A outer s H vs Q E hr h => ?_)
  · obtain ⟨x, ls, lm, la, rs, calls, a, ns, es, rfl, _⟩ := h
    rfl
  · obtain ⟨x, ls, lm, la, rs, calls, a, ns, es, rfl, S, ra, hs, go, want⟩ := h
    refine ⟨_, pss_one (ps_ret (pe_callTy call_tuple_of (by rfl) m_tuple (by decide +kernel) (pa_cons (pe_lc (own := [("name", 1)]) (g := gName 1) (tt := tYes) rfl scMGoals.nd (pi_list (pe_callB (call_sortedD rfl) (by rfl) m_sorted (by decide +kernel) (pa_cons (pe_fld (pv 0) rfl) pa_nil))) (blkOk_by (N := ["self", "name"]) (sc := defScope sMGoals) (by decide +kernel)) (fun _ _ _ _ _ => pg_name (i := 1) scMGoals.nd rfl (Or.inl rfl)) (fun _ _ _ _ _ => pts_nil)
      (fun _ _ _ _ _ => pe_tup (pa_cons (pv 1) (pa_cons (pe_meth (pv 0) ST.cl mS GS hr bS .nil pass0 (pa_cons (pv 1) pa_nil)) pa_nil)))) pa_nil))), ?_⟩
    obtain ⟨dx, hx⟩ := id S.ins
    refine ⟨_, rfl, x, C, dx, _, _, rfl, hx, ST.cl, ST.nA, sF_aims _ _ _, la, es.map gK, es.map Prod.fst, rfl, .inl S.aims, gK_keys es, by rw [List.length_map]; exact go.few, fun ys L perm srt nL => ?_⟩
    have s1 : Same H (upd H L (.lst (ys.map V.str))) := same_upd nL
    have e1 : upd H L (.lst (ys.map V.str)) L = some (.lst (ys.map V.str)) := upd_same
    generalize upd H L (HO.lst (ys.map V.str)) = H1 at s1 e1 ⊢
    refine ⟨L, rfl, ⟨_, SqL.of e1⟩, fun D nD => ?_⟩
    have ly : ys.length < 64 := by rw [perm.length_eq, List.length_map]; exact go.few
    refine lc_list (K := K) (a := L) (xs := ys.map V.str) (fun m G => Same H1 G ∧ ∃ ts : List Addr, G D = some (.lst (ts.map V.ref)) ∧ PrSt G ts ((ys.take m).map fun z => (z, stW ns (byN es z)))) ⟨same_upd nD, [], upd_same, .nil⟩ ?_ ?_ ?_
    · rintro m G _ ⟨sm, _⟩
      exact SqL.of (sm _ _ e1)
    · rintro m u G hu ⟨sm, ts, hD, pr⟩
      rw [List.getElem?_map] at hu
      obtain ⟨z, hz, rfl⟩ := Option.map_eq_some_iff.mp hu
      obtain ⟨e, he, rfl⟩ := List.mem_map.mp (perm.subset (List.mem_of_getElem? hz))
      have sg := s1.trans sm
      have S1 := S.same sg
      obtain ⟨dx1, hx1⟩ := id S1.ins
      have noS : (sF ls lm la).lookup ("state" : Str) = none := sF_no _ _ _ (by decide +kernel) (by decide +kernel) (by decide +kernel)
      refine ⟨rfl, _, rfl, _, rfl, x, dx1, _, rfl, hx1, noS, _, rfl, x, ls, lm, la, rs, calls, a, e.2.1, ns, e.2.2, es.map gK, e.1, rfl, S1, go.nm e he, gK_get go.nd he, ra.same sg, (go.rw e he).same sg, hs, fun H2 s2 => ⟨by show 2 ≤ sizeLine; decide, fun t nt => ?_⟩⟩
      have nD2 : D ≠ t := ne_of_none (s2 _ _ hD) nt
      refine ⟨_, by rw [upd_ne nD2]; exact s2 _ _ hD, by rw [List.length_map, pr.1, List.length_map, List.length_take, sizeLine_eq]; omega, fun b o eb => ?_, ts ++ [t], ?_, ?_⟩
      · have eb1 := s2 _ _ (sm _ _ eb)
        rw [upd_ne (ne_of_none eb nD), upd_ne (ne_of_none eb1 nt)]
        exact eb1
      · rw [upd_same, List.map_append]; rfl
      · rw [List.take_add_one, hz, List.map_append]
        have tD : t ≠ D := Ne.symm nD2
        refine PrSt.snoc ⟨pr.1, fun i t' c h1 h2 => ?_⟩ ?_
        · have h3 := s2 _ _ (pr.2 i t' c h1 h2)
          rw [upd_ne (fun z => by rw [z] at h3; rw [s2 _ _ hD] at h3; cases h3), upd_ne (ne_of_none h3 nt)]
          exact h3
        · show upd (upd H2 t _) D _ t = _
          rw [upd_ne tD, upd_same]
          show _ = some (HO.tup [V.str e.1, V.str (stW ns (byN es e.1))])
          rw [byN_mem go.nd he]
    rintro G ⟨sm, ts, hD, pr⟩
    rw [List.length_map, List.take_length] at pr
    exact ⟨D, _, rfl, .inl ⟨SqL.of hD, fun p np => want _ p ts ys ((s1.trans sm).trans (same_upd np)) ((s1.trans sm).free np) upd_same (pr.same (same_upd np)) perm srt⟩⟩
def spMCalls (C : Addr) : Sp := fun vs H Q _ => ∃ (x ls lm la : Addr) (rows calls : List (Addr × List Int)) (gs : List (Key × V)), vs = [.ref x] ∧ StA C H x ls lm la rows calls gs ∧ Q (.int calls.length) H
theorem ok_mcalls {f C : Addr} {fd : FuncData} {k : Nat} (F : Fun K "calls" "Store.calls" sMCalls f fd) (ST : StT K C) (m_len : mg "len" = none) : FnOk P w K mg base CX0 (k + 1) f fd ["self"] (spMCalls C) := by
  refine F.ok scMCalls (fun vs H Q E h => ?_) (fun cdv A outer s H vs Q E hr h => ?_)
  · obtain ⟨x, ls, lm, la, rows, calls, gs, rfl, _⟩ := h
    rfl
  · obtain ⟨x, ls, lm, la, rows, calls, gs, rfl, S, q⟩ := h
    refine ⟨_, pss_one (ps_ret (pe_callB call_len_seq (by rfl) m_len PySem.boot_len (pa_cons (pe_fld (pv 0) rfl) pa_nil))), ?_⟩
    obtain ⟨dx, hx⟩ := S.ins
    refine ⟨_, rfl, x, C, dx, _, _, rfl, hx, ST.cl, ST.nM, sF_made _ _ _, lm, _, rfl, .inl (SqL.of S.made.1), ?_⟩
    rw [List.length_map]
    exact q
end
end K56

/-! MNc: sorted(d) of a locked dict whose keys are tuples of whole numbers, however many: a list of its keys, in some order -/
namespace MG
open PySem PySem.Spec PyProof.Rows L2
section
variable {P : Program} {w : World} {s : Shared}
/-- any two tuples of as many whole numbers compare -/
theorem rows_total {d : Nat} {B : Int} {vs : List Value} (x : TS.TupsOk s.heap d B vs) (A : Around) : Srt.Tot P w A s (tuples' true) (fun z => z.1 ∈ vs) := fun a b ha hb => by
  obtain ⟨ns, ⟨pa, xs, ea, ⟨oa, ga, _, na, da⟩, ia⟩, la, ba⟩ := x a.1 ha
  obtain ⟨ms, ⟨pb, ys, eb, ⟨ob, gb, _, nb, db⟩, ib⟩, lb, bb⟩ := x b.1 hb
  have same : decide (xs.size < ys.size) = false := by
    have := ia.length
    have := ib.length
    simp only [Array.length_toList] at *
    exact decide_eq_false (by omega)
  refine ⟨decide (TS.code B ns < TS.code B ms), ?_⟩
  rw [ea, eb]
  exact PySem.W.kat_lt ga da gb db (by rw [same]; exact TS.lex_ints 0 ia ib (by omega) ba bb ⟨rfl, rfl⟩)
theorem rows_sortable {d : Nat} {B : Int} {vs : List Value} {A : Around} {l : Addr} (d1 : 1 ≤ d) (ne : 0 < vs.length) (x : TS.TupsOk s.heap d B vs) (no : ∀ o, s.heap.get? l = some o → o.cls ≠ .type "tuple") : Srt.Sortable P w A s l vs := fun h' kp => by
  have x' : TS.TupsOk h' d B vs := x.keeps fun b o e c => kp b o (fun z => no o (by rw [← z]; exact e) c) e
  obtain ⟨fs, ks, hl, inF⟩ := TS.firsts_of d1 vs x'
  refine ⟨tuples' true, fun Q E h => PySem.W.kat_kind (T := .type "int") ks (by rw [hl]; exact ne) (fun f hf => ?_) rfl h, rows_total (s := { s with heap := h' }) x' A⟩
  obtain ⟨n, t, rfl⟩ := inF f hf
  exact PySem.W.Looks.of_pure rfl
/-- a dict as a thing to be gone through, by its entries -/
theorem src_raw {a : Addr} {es : Array DictEntry} {ep : Nat} (hs : (a == sysModules) = false) : PySem.W.KdlSrc P w "dict" a a es.size (fun i v => ∃ hi : i < es.size, v = es[i].key) (fun h => h.DictRaw a es ep) where
  type := fun _ x => x.typeIs
  there := fun h ⟨_, e, _⟩ => ⟨Heap.lt_size e, Heap.lt_size e⟩
  keep := fun _ _ x k => x.at fun o e => k a (.inl rfl) o e
  notList := rfl
  notTuple := rfl
  hint := fun _ _ _ _ x q => PySem.W.kdl_hint_dict x.typeIs q
  iter := fun A st calm ⟨o, e, c, dt⟩ => ⟨_, _, fun _ _ q => iter_keys hs e c dt q, Walks.rawKeys calm _ a (Nat.ne_of_lt (Heap.lt_size e)) es ep, ⟨⟨_, Heap.get?_push_size _ rfl, rfl, rfl⟩, ⟨o, Heap.get?_push_of_some _ e, c, dt⟩⟩⟩
end
section
variable {X : Cx}
def rSortDT : List V → Hp → VK → Prop := fun vs H Q => ∃ (a : Addr) (od : Obj) (kvs : List (List Key × V)) (d : Nat) (B : Int), vs = [.ref a] ∧ H a = some (.frz od (.dT kvs)) ∧ 1 ≤ d ∧
  (∀ z ∈ kvs, ∃ ns : List Int, z.1 = ns.map Sum.inl ∧ ns.length = d ∧ TS.Bd B ns) ∧
  ∀ (p : Addr) (ys : List V), H p = none → ys.length = kvs.length → (∀ y ∈ ys, ∃ (z : List Key × V) (q : Addr), z ∈ kvs ∧ y = .ref q ∧ H q = some (.tup (z.1.map kV))) → Q (.ref p) (upd H p (.lst ys))
theorem cr_sortDT (hc : X.calm = true) : CallR X (.builtin "sorted") rSortDT := by
  rintro pins s σ H vs us Q I r ⟨a, od, kvs, d, B, rfl, ha, d1, shape, want⟩
  obtain rfl := Vals.ref1 r
  obtain ⟨hs, hgd, hx, es, ep, hdt, hsz, ent⟩ := I.frzT ha
  have z := (I.hok a _ ha).2.1
  have raw : s.heap.DictRaw a es ep := ⟨od, hgd, hx, hdt⟩
  have many : es.size ≤ sizeLine := by rw [hsz]; exact z
  refine Calls.call_function_entry PyProof.Rows.kind_sorted PyProof.Rows.plain_sorted PyProof.Rows.entry_sorted (PyProof.Rows.args_sorted1 _) ?_
  unfold Builtin.«sorted»
  refine wpAny_bind (m := checkCount "sorted" 1 1 _) (wpAny_pure ?_)
  refine wpAny_bind (PySem.W.kdu_collect (A := X.A.in1) (src_raw (ep := ep) hs) (I.ok.hd hc) raw many fun h' tk acc hk ⟨hn, hacc⟩ => ?_)
  have hn' : acc.toList.length = kvs.length := by rw [Array.length_toList, hn, hsz]
  -- each key is a tuple that stands
  have each : ∀ u ∈ acc.toList, ∃ (y : List Key × V) (q : Addr), y ∈ kvs ∧ u = .ref q ∧ H q = some (.tup (y.1.map kV)) := fun u hu => by
    obtain ⟨i, hi, e⟩ := List.getElem_of_mem hu
    obtain ⟨he, ev⟩ := hacc i u (by rw [← Array.getElem?_toList, List.getElem?_eq_getElem hi, e])
    have lt : i < kvs.length := by omega
    obtain ⟨en, q, h1, h2, h3⟩ := ent i kvs[i].1 kvs[i].2 (List.getElem?_eq_getElem lt)
    refine ⟨kvs[i], q, List.getElem_mem lt, ?_, h3⟩
    rw [ev, ← h2]
    rw [Array.getElem?_eq_getElem he] at h1
    rw [Option.some.inj h1]
  have I1 : Inv X pins σ H { s with heap := h', toks := tk } := I.kept hk
  have len : acc.toList.length ≤ sizeLine := by rw [hn']; exact z
  refine wpAny_bind (wpAny_newList ?_ len)
  obtain ⟨G, hG⟩ : ∃ G : Heap, G = h'.push (PyProof.Rows.seqObj "list" acc.toList.toArray 0) := ⟨_, rfl⟩
  have gl : G.get? h'.objs.size = some (PyProof.Rows.seqObj "list" acc.toList.toArray 0) := by rw [hG]; exact Heap.get?_push_size _ rfl
  have old : ∀ b o, h'.get? b = some o → b ≠ h'.objs.size ∧ G.get? b = some o := fun b o e => ⟨Nat.ne_of_lt (Heap.lt_size e), by rw [hG]; exact Heap.get?_push_of_some _ e⟩
  have size : G.objs.size = h'.objs.size + 1 := by rw [hG]; exact PyProof.Rows.size_push' ..
  show wpAny _ _ _ _ _ { s with heap := h'.push (PyProof.Rows.seqObj "list" acc.toList.toArray 0), toks := tk }
  rw [← hG]
  have tups : TS.TupsOk G d B acc.toList := fun u hu => by
    obtain ⟨y, q, hy, rfl, hq⟩ := each u hu
    obtain ⟨ns, en, hl, hb⟩ := shape y hy
    obtain ⟨_, its, rel, o, ho, hcl, n, hdt'⟩ := I1.hok q _ hq
    refine ⟨ns, ⟨q, its.toArray, rfl, ⟨o, (old q o ho).2, hcl, n, hdt'⟩, ?_⟩, hl, hb⟩
    have e : y.1.map kV = ns.map V.int := by rw [en, List.map_map]; rfl
    rw [e] at rel
    exact ints_of_vals rel
  have sorts := fun h2 : 2 ≤ acc.toList.length => rows_sortable (P := X.prog) (w := X.w) (s := { s with heap := G, toks := tk }) (A := X.A.in1.in1) (l := h'.objs.size) d1 (by omega) tups (fun o e c => by
    have e' : some o = some (PyProof.Rows.seqObj "list" acc.toList.toArray 0) := e.symm.trans gl
    cases e'
    exact absurd (Value.type.inj c) (by decide))
  have start : ∀ out : List Value, out.Perm acc.toList → ∃ r s', r = PySem.Fin.done (.ret .none) ∧ s' = { s with heap := PyProof.Rows.sortedHeap G h'.objs.size acc.toList out.toArray, toks := tk } := fun _ _ => ⟨_, _, rfl, rfl⟩
  refine wpAny_bind (wpAny_holding (wpAny_call_entry PyProof.Rows.slot_list_sort ⟨_, gl, rfl⟩ PyProof.Rows.entry_list_sort (Srt.list_sort_any gl len sorts fun out perm => ⟨_, rfl, ?_⟩) (PyProof.Rows.args_list_sort _)))
  obtain ⟨e', he'⟩ := PyProof.Rows.sortedHeap_at (vs := acc.toList) (out := out.toArray) gl
  have outs : ∀ u ∈ out, ∃ q, u = Value.ref q := fun u hu => by
    obtain ⟨_, q, _, e, _⟩ := each u (perm.mem_iff.mp hu)
    exact ⟨q, e⟩
  have lo : (out.map backV).length = kvs.length := by rw [List.length_map, perm.length_eq, hn']
  refine wpAny_pure ⟨_, rfl, .ref h'.objs.size, _, I1.laid (o := .lst (out.map backV)) (t' := tk) (fun b u e => ?_) (Nat.le_refl _) ⟨by rw [lo]; exact z, out, e', vals_back outs, he'⟩, rfl, want _ _ (I1.hok.fresh (Nat.le_refl _)) lo fun y hy => ?_⟩
  · rw [PyProof.Rows.sortedHeap_old (old b u e).1 (by rw [size]; exact Nat.lt_succ_of_lt (Heap.lt_size e))]
    exact (old b u e).2
  · obtain ⟨u, hu, rfl⟩ := List.mem_map.mp hy
    obtain ⟨zz, q, h1, rfl, h3⟩ := each u (perm.mem_iff.mp hu)
    exact ⟨zz, q, h1, rfl, h3⟩
end
end MG

/-! MRa: sorted(d) of a dict of tuples, locked while it runs; d == {} ; one place alone of a range -/
namespace MG
open PySem PySem.Spec PyProof.Rows L2
section
variable {X : Cx}
def rSortDU : List V → Hp → VK → Prop := fun vs H Q => ∃ (a : Addr) (kvs : List (List Key × V)) (d : Nat) (B : Int), vs = [.ref a] ∧ H a = some (.dT kvs) ∧ 1 ≤ d ∧
  (∀ z ∈ kvs, ∃ ns : List Int, z.1 = ns.map Sum.inl ∧ ns.length = d ∧ TS.Bd B ns) ∧
  ∀ (p : Addr) (ys : List V), H p = none → ys.length = kvs.length → (∀ y ∈ ys, ∃ (z : List Key × V) (q : Addr), z ∈ kvs ∧ y = .ref q ∧ H q = some (.tup (z.1.map kV))) → Q (.ref p) (upd H p (.lst ys))
theorem cr_sortDU (hc : X.calm = true) : CallR X (.builtin "sorted") rSortDU := by
  rintro pins s σ H vs us Q I r ⟨a, kvs, d, B, rfl, ha, d1, shape, want⟩
  obtain ⟨od, I2⟩ := I.lock ha True.intro
  have run := cr_sortDT hc pins s σ _ [.ref a] us (fun v H' => H' a = some (.frz od (.dT kvs)) ∧ Q v (upd H' a (.dT kvs))) I2 r ⟨a, od, kvs, d, B, rfl, upd_same, d1, shape, fun p ys np ly ey => ?_⟩
  · exact thn run fun v s1 ⟨x, H1, I3, rx, e, q⟩ => ⟨x, _, I3.unlock e (I.nofrz ha True.intro), rx, q⟩
  · have pa : p ≠ a := fun z => by rw [z, upd_same] at np; cases np
    have np' : H p = none := by rw [upd_ne pa] at np; exact np
    have e : upd (upd (upd H a (.frz od (.dT kvs))) p (.lst ys)) a (.dT kvs) = upd H p (.lst ys) := by
      funext c
      by_cases c1 : c = a
      · rw [c1, upd_same, upd_ne pa.symm, ha]
      · rw [upd_ne c1]
        by_cases c2 : c = p
        · rw [c2, upd_same, upd_same]
        · rw [upd_ne c2, upd_ne c1, upd_ne c2]
    refine ⟨by rw [upd_ne pa.symm]; exact upd_same, ?_⟩
    rw [e]
    refine want p ys np' ly fun y hy => ?_
    obtain ⟨z, q, h1, h2, h3⟩ := ey y hy
    have qa : q ≠ a := fun w => by rw [w, upd_same] at h3; cases h3
    rw [upd_ne qa] at h3
    exact ⟨z, q, h1, h2, h3⟩
/-- d == {} -/
def rEqE : R2 := fun x y H Q => ∃ (a b : Addr) (ks : List (Key × V)), x = .ref a ∧ y = .ref b ∧ H a = some (.dK ks) ∧ H b = some (.dK []) ∧ Q (.bl ks.isEmpty) H
theorem op_eqE (hu : X.A.units + 64 < cLine) : OpR X (compareOp .Eq) rEqE := by
  intro pins s σ H x y v u Q I rx ry h
  obtain ⟨a, b, ks, rfl, rfl, ha, hb, q⟩ := h
  cases (show v = Value.ref a from rx)
  cases (show u = Value.ref b from ry)
  obtain ⟨_, ya, va, ra, da⟩ := (show ObjOk X.prog X.w H s.heap a (.dK ks) from I.hok a _ ha)
  obtain ⟨_, yb, vb, rb, db⟩ := (show ObjOk X.prog X.w H s.heap b (.dK []) from I.hok b _ hb)
  have lb : vb.length = 0 := by rw [← rb.length]; rfl
  have la : va.length = ks.length := by rw [← ra.length]
  have hits : va.length = vb.length → PySem.W.KeqHitsP X.prog X.w X.A.in1 s vb va true := fun hl => by
    have z : va = [] := List.length_eq_zero_iff.mp (by omega)
    rw [z]; exact .nil
  refine PySem.W.rcP_dicts (knd := mixKind X.prog X.w) (r := true) ya yb da db (by omega) hits _ _ ?_
  have e : (va.length == vb.length && true) = ks.isEmpty := by
    rw [lb, la]
    cases ks <;> rfl
  rw [e]
  exact ⟨.bl ks.isEmpty, H, I, rfl, q⟩
end
theorem one_place {n i : Nat} {f : Nat → Bool} (hi : i < n) (h : ∀ p, p < n → f p = decide (p = i)) : (List.range n).filter f = [i] := by
  induction n with
  | zero => omega
  | succ n ih =>
    rw [List.range_succ, List.filter_append]
    by_cases e : i = n
    · have : (List.range n).filter f = [] := List.filter_eq_nil_iff.mpr fun p hp => by
        have hp' := List.mem_range.mp hp
        rw [h p (by omega), decide_eq_true_eq]
        omega
      rw [this, List.filter_cons_of_pos (by rw [h n (by omega)]; exact decide_eq_true e.symm), List.filter_nil, e]
      rfl
    · rw [ih (by omega) fun p hp => h p (by omega), List.filter_cons_of_neg (by rw [h n (by omega), decide_eq_true_eq]; omega), List.filter_nil]
      rfl
theorem gives_one {r : List Int} {i j : Nat} (m : MayG r i j) : (List.range r.length).filter (fun p => decide ((deed r i j).getD p 0 < r.getD p 0)) = [i] := by
  refine one_place m.hi fun p hp => ?_
  have pj := m.pj
  have ge := m.ge
  have ne := m.ne
  rw [deed_get m p, Bool.eq_iff_iff, decide_eq_true_iff, decide_eq_true_iff]
  split
  · rename_i e; subst e; omega
  · split
    · rename_i e; subst e; omega
    · omega
theorem takes_one {r : List Int} {i j : Nat} (m : MayG r i j) : (List.range r.length).filter (fun p => decide (r.getD p 0 < (deed r i j).getD p 0)) = [j] := by
  refine one_place m.hj fun p hp => ?_
  have pj := m.pj
  have ge := m.ge
  have ne := m.ne
  rw [deed_get m p, Bool.eq_iff_iff, decide_eq_true_iff, decide_eq_true_iff]
  split
  · rename_i e; subst e; omega
  · split
    · rename_i e; subst e; omega
    · omega
end MG

/-! MJd: a tuple from behind -/
namespace MG
open PySem PySem.Spec PyProof.Rows L2 HT
theorem back_adjust (n : Nat) : Builtin.Slice.sliceAdjust none none (-1) (n : Int) = ((n : Int) - 1, -1) := rfl
theorem back_places (n : Nat) : Builtin.Slice.slicePlaces ((n : Int) - 1) (-1) (-1) = n := by
  show (if (-1 : Int) > 0 then _ else if ((n : Int) - 1) > -1 then ((n : Int) - 1 - -1 - 1) / (- -1) + 1 else 0).toNat = n
  rw [if_neg (by decide)]
  by_cases h : ((n : Int) - 1) > -1
  · rw [if_pos h, show (- -1 : Int) = 1 from rfl, Int.ediv_one]
    omega
  · rw [if_neg h]
    omega
/-- what is picked from behind -/
theorem back_pick (xs : List Value) : ((List.range xs.length).filterMap fun (m : Nat) => xs.toArray[((xs.length : Int) - 1 + (m : Int) * (-1)).toNat]?) = xs.reverse := by
  have gen : ∀ (k : Nat), k ≤ xs.length → ((List.range k).filterMap fun (m : Nat) => xs.toArray[((xs.length : Int) - 1 + (m : Int) * (-1)).toNat]?) = xs.reverse.take k := by
    intro k
    induction k with
    | zero => intro _; rfl
    | succ k ih =>
      intro hk
      rw [List.range_succ, List.filterMap_append, ih (by omega), List.take_add_one, List.getElem?_reverse (by omega)]
      congr 1
      have e : ((xs.length : Int) - 1 + (k : Int) * (-1)).toNat = xs.length - 1 - k := by omega
      have g : xs[xs.length - 1 - k]? = some (xs[xs.length - 1 - k]'(by omega)) := List.getElem?_eq_getElem (by omega)
      show (List.filterMap _ [k]) = _
      rw [List.filterMap_cons, List.filterMap_nil, e, List.getElem?_toArray, g]
      rfl
  have := gen xs.length (Nat.le_refl _)
  rwa [List.take_of_length_le (by rw [List.length_reverse]; exact Nat.le_refl _)] at this
/-- the parts of t[::-1], where n items are -/
theorem back_parts {prog : Program} {w : World} {A : Around} {E : Value → Shared → Prop} {s : Shared} {sl : Addr} {u : Tok} {n : Nat} {R : Int × Int × Nat → Shared → Prop}
    (hs : s.heap.IsSliceOf sl .none .none (.int (-1) u)) (r : R ((n : Int) - 1, -1, n) s) : wpAny (model prog w) A (Builtin.Slice.sliceApplied (.ref sl) (pure (n : Int))) R E s := by
  obtain ⟨o, h1, h2, h3⟩ := id hs
  have fin : R (((n : Int) - 1), -1, Builtin.Slice.slicePlaces ((n : Int) - 1) (-1) (-1)) s := by rw [back_places]; exact r
  wp_walk using wpAny_field h1 h3 (x := .none) rfl, wpAny_field h1 h3 (x := .int (-1) u) rfl, slicePart_none, slicePart_int
  exact fin
/-- t.__getitem__(the slice) -/
theorem back_gets (t sl : Addr) (u : Tok) (xs : List Value) (ok : xs.length ≤ sizeLine) :
    PySem.Meets (Builtin.«tuple.__getitem__» ⟨[.ref t, .ref sl], []⟩) (fun _ R s => (IsTup s.heap t xs.toArray ∧ s.heap.IsSliceOf sl .none .none (.int (-1) u)) ∧ R (.ok (.ret (.ref s.heap.objs.size))) { s with heap := s.heap.push { cls := .type "tuple", data := .seq xs.reverse.toArray } }) :=
  PySem.Meets.of_wp fun prog w A R s h => by
    obtain ⟨⟨ht, hs⟩, r⟩ := h
    obtain ⟨o, h1, h2, h3⟩ := id hs
    have ty : s.TypeIs (.ref sl) "slice" := ⟨o, h1, h2⟩
    wp_walk using tupleItemsOf_ ht, back_parts hs
    have sz : xs.toArray.size = xs.length := List.size_toArray
    have many : ¬ xs.reverse.toArray.size > sizeLine := by
      rw [List.size_toArray, List.length_reverse]
      omega
    rw [sz, back_pick, if_neg many]
    wp_walk
    exact ⟨_, rfl, r⟩
/-- t[::-1] -/
def tBack (K : PySem.W.Frag) (te : TE) : TE := fun σ H Q => te σ H fun x H1 => ∃ a xs, x = .ref a ∧ SqT K H1 a xs ∧ ∀ p, H1 p = none → Q (.ref p) (upd H1 p (.tup xs.reverse))
section
variable {X : Cx} {pins : List (Addr × Obj)} {s : Shared} {σ : L2.St} {H : Hp}
/-- the slice object of [::-1] -/
theorem back_slice {Q : Value → Shared → Prop} {k : Nat} {p1 p2 p3 : Pos} (I : Inv X pins σ H s)
    (go : ∀ (sl : Addr) (s' : Shared) (u : Tok), Inv X pins σ H s' → s'.heap.IsSliceOf sl .none .none (.int (-1) u) → Q (.ref sl) s') :
    wpAny (model X.prog X.w) X.A (eval (.Slice none none (some (.UnaryOp .USub (.Constant (.int 1) k p1) p2)) p3) X.env) Q X.xe s := by
  have step : PO X (some (.UnaryOp .USub (.Constant (.int 1) k p1) p2)) _ := po_some (pe_un un_neg pe_int)
  have none_ : ∀ {s : Shared} {R : Value → Shared → Prop}, Inv X pins σ H s → (∀ s', Inv X pins σ H s' → R .none s') → wpAny (model X.prog X.w) X.A (evalPart none X.env) R X.xe s := fun J g =>
    thn (po_none.run pins _ σ H (fun o H' => o = none ∧ H' = H) J ⟨rfl, rfl⟩) fun v s' ⟨o, H', J', p, e, eh⟩ => by
      subst e eh
      cases p
      exact g s' J'
  refine wpAny_Slice (none_ I fun s1 I1 => none_ I1 fun s2 I2 => thn (step.run pins s2 σ H (fun o H' => o = some (-1) ∧ H' = H) I2 ⟨1, rfl, -1, rfl, rfl, rfl⟩) fun v s3 got => ?_)
  obtain ⟨o, H', I3, p, e, eh⟩ := got
  subst e eh
  cases p
  exact go _ _ _ (I3.kept (t' := s3.toks) fun b ob q => Heap.get?_push_of_some _ q) (Heap.IsSliceOf.new ..)
theorem pe_revT {e : Expr} {te : TE} {k : Nat} {p1 p2 p3 pos : Pos} (he : PE X e te) : PE X (.Subscript e (.Slice none none (some (.UnaryOp .USub (.Constant (.int 1) k p1) p2)) p3) pos) (tBack X.K te) :=
  ⟨fun pins s σ H Q I h => Subscript_ (thn (he.run pins s σ H _ I h) fun v s1 got => by
    obtain ⟨x, H1, I1, rx, a, xs, rfl, sq, want⟩ := got
    cases rx
    refine back_slice I1 fun sl s2 u I2 sli => ?_
    obtain ⟨its, rel, tup, few⟩ := I2.tuple sq
    have len := rel.length
    refine tail_any (ops := [.ref a, .ref sl]) tup.typeIs PyProof.Rows.slot_tuple_getitem.lookup (getItem_meets tup.typeIs (by decide) PyProof.Rows.slot_tuple_getitem PyProof.Rows.entry_tuple_getitem (PySem.F.args_tuple_getitem_2 _ _) (back_gets a sl u its (by omega)) ⟨⟨tup, sli⟩, ?_⟩) (by with_unfolding_all rfl)
    refine ⟨.ref s2.heap.objs.size, _, I2.laid (t' := s2.toks) (o := .tup xs.reverse) (fun b ob q => Heap.get?_push_of_some _ q) (Nat.le_refl _) ⟨?_, its.reverse, ?_, ?_⟩, rfl, want _ (I2.hok.fresh (Nat.le_refl _))⟩
    · rw [List.length_reverse]; omega
    · exact rel.reverse
    · exact IsTup.new _ _)⟩
end
end MG

namespace K56
open PySem PySem.Spec PyProof.Rows L2 MG LamX
abbrev sGl : Stmt := topS 61
abbrev nGl : List Str := ["_law_box_here", "_law_row_here", "_law_some", "_law_way", "_law_amounts", "_law_amount"]
theorem scGl : FnScope ["_law_box_here", "_law_row_here", "_law_some", "_law_way", "_law_amounts", "_law_amount"] ["_law_box_here", "_law_row_here", "_law_some"] (defScope sGl) := ⟨rfl, rfl, rfl, by decide +kernel, rfl, by decide +kernel, by decide +kernel⟩
abbrev sSta : Stmt := topS 62
abbrev nSta : List Str := ["_law_row_here", "_law_goal_here", "_law_comes_here"]
theorem scSta : FnScope ["_law_row_here", "_law_goal_here", "_law_comes_here"] ["_law_row_here", "_law_goal_here", "_law_comes_here"] (defScope sSta) := ⟨rfl, rfl, rfl, by decide +kernel, rfl, by decide +kernel, by decide +kernel⟩
/-- a small row: at most five places, four holders, sixteen together -/
structure Sm (ns : List Int) : Prop where
  nn : ∀ n ∈ ns, 0 ≤ n
  l5 : ns.length ≤ 5
  c4 : cnt ns ≤ 4
  s16 : ns.sum ≤ 16
  s1 : 0 < ns.sum
theorem Sm.pow {ns : List Int} (h : Sm ns) : (ns.sum.toNat + 1) ^ ns.length ≤ 10000000 := by
  have h1 : ns.sum.toNat + 1 ≤ 17 := by have := h.s16; omega
  have h2 : (ns.sum.toNat + 1) ^ ns.length ≤ 17 ^ ns.length := Nat.pow_le_pow_left h1 _
  have h3 : 17 ^ ns.length ≤ 17 ^ 5 := Nat.pow_le_pow_right (by decide) h.l5
  have h4 : (17 : Nat) ^ 5 ≤ 10000000 := by decide
  omega
theorem Sm.iff {r o : List Int} (h : Sm r) (no : ∀ n ∈ o, 0 ≤ n) : Re r o ↔ brkF r o = [] := by
  refine ⟨re_brk h.nn, fun hb => ?_⟩
  rcases brkF_nil.mp hb with rfl | ⟨l, _, _⟩
  · exact .refl
  · exact come16 h.nn no l h.c4 h.s16 hb
theorem Sm.deed {r : List Int} {i j : Nat} (h : Sm r) (m : MayG r i j) : Sm (deed r i j) :=
  ⟨deed_nn m h.nn, by rw [deed_len]; exact h.l5, Nat.le_trans (re_cnt h.nn (.step .refl m)) h.c4, by rw [deed_sum m]; exact h.s16, by rw [deed_sum m]; exact h.s1⟩
theorem Sm.re {r o : List Int} (h : Sm r) (hr : Re r o) : Sm o := by
  have k := hr.keeps h.nn
  exact ⟨k.2.2, by rw [k.1]; exact h.l5, Nat.le_trans (re_cnt h.nn hr) h.c4, by rw [k.2.1]; exact h.s16, by rw [k.2.1]; exact h.s1⟩
section
variable {P : Program} {w : World} {K : PySem.W.Frag} {mg : Str → Option Value} {base : Heap}
/-- rows that come, in a list -/
def Cm (H : Hp) (ns : List Int) (ys : List V) : Prop := ∀ y ∈ ys, ∃ (q : Addr) (o : List Int), y = .ref q ∧ Re ns o ∧ H q = some (.tup (o.map V.int))
theorem Cm.keep {H H' : Hp} {ns : List Int} {ys : List V} (h : Cm H ns ys) (k : ∀ q xs, H q = some (.tup xs) → H' q = some (.tup xs)) : Cm H' ns ys := fun y hy => by
  obtain ⟨q, o, e, r, t⟩ := h y hy
  exact ⟨q, o, e, r, k _ _ t⟩
theorem sum_rev : ∀ l : List Int, l.reverse.sum = l.sum
  | [] => rfl
  | x :: l => by rw [List.reverse_cons, List.sum_append, sum_rev l, List.sum_cons, List.sum_cons, List.sum_nil]; omega
theorem sum_less : ∀ l : List Int, (l.map fun x => x - 1).sum = l.sum - l.length
  | [] => rfl
  | x :: l => by rw [List.map_cons, List.sum_cons, sum_less l, List.sum_cons, List.length_cons]; omega
def spGl : Sp := fun vs H Q _ => ∃ (b a th : Addr) (ns : List Int) (ys : List V) (n : Nat), vs = [.ref b, .ref a, .ref th] ∧ Box H b n ∧ n ≤ 100000 ∧ H a = some (.tup (ns.map V.int)) ∧ Sm ns ∧ H th = some (.lst ys) ∧ b ≠ th ∧ 1 ≤ ys.length ∧ ys.length ≤ 10000000 ∧ Cm H ns ys ∧
  ∀ (q : Addr) (os : List Int) (H' : Hp), Box H' b (n + 30) → (∀ c o, c ≠ b → H c = some o → H' c = some o) → SX b H H' → H' q = some (.tup (os.map V.int)) → (∀ x ∈ os, 0 ≤ x) → os.length = ns.length → ns.sum ≤ os.sum → os.sum ≤ ns.sum + 1 → Q (.ref q) H'
theorem ok_gl {f fT fO fS : Addr} {fd fdT fdO fdS : FuncData} {k : Nat} (F : Fun K "_law_goal" "_law_goal" sGl f fd)
    (FT : Fun K "_law_take" "_law_take" sTake fT fdT) (bT : Binds K fdT ["_law_box_here", "_law_many"] []) (gT : mg "_law_take" = some (.ref fT))
    (FO : Fun K "_law_of" "_law_of" sOf fO fdO) (bO : Binds K fdO ["_law_box_here", "_law_some"] []) (gO : mg "_law_of" = some (.ref fO))
    (FS : Fun K "_law_split" "_law_split" sSplit fS fdS) (bS : Binds K fdS ["_law_box_here", "_law_total", "_law_many"] []) (gS : mg "_law_split" = some (.ref fS))
    (m_len : mg "len" = none) (m_sum : mg "sum" = none) (m_int : mg "int" = none) (m_range : mg "range" = none) (m_tuple : mg "tuple" = none) :
    FnOk P w K mg base CX0 (k + 3) f fd ["_law_box_here", "_law_row_here", "_law_some"] spGl := by
  have GT : FnOk P w K mg base CX0 (k + 1) fT fdT ["_law_box_here", "_law_many"] spTake := ok_take FT
  have GO : FnOk P w K mg base CX0 (k + 2) fO fdO ["_law_box_here", "_law_some"] spOf := ok_of FO FT bT gT m_len
  have GS : FnOk P w K mg base CX0 (k + 2) fS fdS ["_law_box_here", "_law_total", "_law_many"] spSplitS := ok_splitS FS FT bT gT m_range
  refine F.ok scGl (fun vs H Q E h => ?_) (fun cdv A outer s H vs Q E hr h => ?_)
  · obtain ⟨b, a, th, ns, ys, n, rfl, _⟩ := h
    rfl
  · obtain ⟨b, a, th, ns, ys, n, rfl, hB, hn, ea, sm, et, bt, y1, y2, cm, q⟩ := h
    have hr2 := hr
    have hr1 := hr.mono (show k + 1 ≤ k + 2 by omega)
    refine ⟨_, pss_cons (ps_set (i := 3) scGl.nd rfl (.inl rfl) (pe_call GT hr1 (by rfl) gT FT.kp bT .nil pass0 (pa_cons (pv 0) (pa_cons pe_int pa_nil))))
      (pss_cons (ps_if (pt_cmpR op_lt (pv 3) pe_int (nomark _)) (pss_one (ps_ret (pe_call GO hr2 (by rfl) gO FO.kp bO .nil pass0 (pa_cons (pv 0) (pa_cons (pv 2) pa_nil))))) pss_nil)
      (pss_cons (ps_if (pt_cmpR op_eq (pv 3) pe_int (nomark _)) (pss_one (ps_ret (pe_revT (pe_call GO hr2 (by rfl) gO FO.kp bO .nil pass0 (pa_cons (pv 0) (pa_cons (pv 2) pa_nil)))))) pss_nil)
      (pss_cons (ps_set (i := 4) scGl.nd rfl (.inl rfl) (pe_call GS hr2 (by rfl) gS FS.kp bS .nil pass0 (pa_cons (pv 0) (pa_cons (pe_op op_add (pe_op op_add (pe_callB (sumT rfl) (by rfl) m_sum (by decide +kernel) (pa_cons (pv 1) pa_nil)) (pe_callB call_len_seq (by rfl) m_len PySem.boot_len (pa_cons (pv 1) pa_nil))) (pe_callTy call_int1 (by rfl) m_int (by decide +kernel) (pa_cons (pe_cmpR op_eq (pv 3) pe_int (nomark _)) pa_nil))) (pa_cons (pe_callB call_len_seq (by rfl) m_len PySem.boot_len (pa_cons (pv 1) pa_nil)) pa_nil)))))
      (pss_one (ps_ret (pe_callTy call_tuple_of (by rfl) m_tuple (by decide +kernel) (pa_cons (pe_lc (own := [("_law_amount", 5)]) (g := gName 5) (tt := tYes) rfl scGl.nd (pi_list (pv 4)) (blkOk_by (N := nGl) (sc := defScope sGl) (by decide +kernel)) (fun _ _ _ _ _ => pg_name (i := 5) scGl.nd rfl (Or.inl rfl)) (fun _ _ _ _ _ => pts_nil) (fun _ _ _ _ _ => pe_op op_sub (pv 5) pe_int)) pa_nil))))))), ?_⟩
    have tb : ∀ {G : Hp} {m : Nat} {c : Addr} {xs : List V}, Box G b m → G c = some (.tup xs) → c ≠ b := fun hb e z => by
      obtain ⟨_, _, _, e', _⟩ := hb
      rw [← z, e] at e'; cases e'
    refine ⟨_, rfl, b, 5, n, rfl, hB, by omega, by decide, by decide, fun wy G1 w0 w1 B1 k1 => ?_⟩
    have ft : ∀ {y : V} {G2 : Hp}, y ∈ ys → (∀ c, c ≠ b → G2 c = G1 c) → ∃ (q' : Addr) (o : List Int), y = .ref q' ∧ Re ns o ∧ G2 q' = some (.tup (o.map V.int)) ∧ ∀ c o, c ≠ b → H c = some o → G2 c = some o := fun {y G2} hy k2 => by
      obtain ⟨q', o, e, r, t⟩ := cm y hy
      have qb := tb hB t
      exact ⟨q', o, e, r, by rw [k2 q' qb, k1 q' qb]; exact t, fun c o hc e => by rw [k2 c hc, k1 c hc]; exact e⟩
    refine ⟨_, rfl, wy, 2, rfl, rfl, _, rfl, ?_⟩
    refine ite2 (fun _ => ?_) (fun _ => ?_)
    · refine ⟨_, rfl, _, rfl, b, th, _, ys, rfl, B1, by omega, by rw [k1 th bt.symm]; exact et, bt, y1, y2, fun y G2 hy B2 k2 => ?_⟩
      obtain ⟨q', o, rfl, r, e, fr⟩ := ft hy k2
      have kk := r.keeps sm.nn
      exact q q' o G2 (B2.le (by omega)) fr (SX.trans (.of_eq k1) (.of_eq k2)) e kk.2.2 kk.1 (by omega) (by omega)
    refine ⟨_, rfl, rfl, _, rfl, ite2 (fun _ => ?_) (fun _ => ?_)⟩
    · refine ⟨_, rfl, _, rfl, b, th, _, ys, rfl, B1, by omega, by rw [k1 th bt.symm]; exact et, bt, y1, y2, fun y G2 hy B2 k2 => ?_⟩
      obtain ⟨q', o, rfl, r, e, fr⟩ := ft hy k2
      have kk := r.keeps sm.nn
      refine ⟨q', _, rfl, SqT.of e, fun p np => ?_⟩
      rw [← List.map_reverse]
      have s3 := same_upd (o := HO.tup (o.reverse.map V.int)) np
      refine q p o.reverse _ ((B2.new np).le (by omega)) (fun c o' hc e' => s3 _ _ (fr c o' hc e')) (SX.trans (SX.trans (.of_eq k1) (.of_eq k2)) (.of_same s3)) upd_same (fun x hx => kk.2.2 x (List.mem_reverse.mp hx)) (by rw [List.length_reverse]; exact kk.1) ?_ ?_
      · rw [sum_rev]; omega
      · rw [sum_rev]; omega
    · have ea1 : G1 a = some (.tup (ns.map V.int)) := by rw [k1 a (tb hB ea)]; exact ea
      have l5 := sm.l5
      have l1 : 1 ≤ ns.length := by
        have := sm.s1
        cases ns with
        | nil => simp at this
        | cons y t => show 1 ≤ t.length + 1; omega
      have s16 := sm.s16
      have s1 := sm.s1
      obtain ⟨z, hz, z0, z1⟩ : ∃ z : Int, (if decide (V.int wy = V.int 4) = true then (1 : Int) else 0) = z ∧ 0 ≤ z ∧ z ≤ 1 := by
        refine ⟨_, rfl, ?_⟩
        split <;> omega
      refine ⟨_, rfl, _, rfl, a, ns, rfl, SqT.of ea1, _, rfl, a, _, rfl, .inr (SqT.of ea1), _, _, rfl, rfl, _, rfl, rfl, .inr ⟨_, rfl, _, _, rfl, rfl, _, rfl, a, _, rfl, .inr (SqT.of ea1), ?_⟩⟩
      rw [hz, List.length_map]
      refine ⟨b, ns.sum + ns.length + z, ns.length, n + 1, rfl, B1, by omega, by omega, by omega, by omega, by omega, fun p G2 xs np hl hx hs B2 x2 ep => ?_⟩
      have x02 : SX b H G2 := SX.trans (.of_eq k1) x2
      refine ⟨_, rfl, p, rfl, ⟨_, SqL.of ep⟩, fun D nD => ?_⟩
      refine lc_list (K := K) (a := p) (xs := xs.map V.int) (fun m H' => Same G2 H' ∧ H' D = some (.lst (((xs.take m).map fun x => x - 1).map V.int))) ⟨same_upd nD, upd_same⟩ ?_ ?_ ?_
      · rintro m H' _ ⟨sm', _⟩
        exact SqL.of (sm' _ _ ep)
      · rintro m x H' hx' ⟨sm', hD⟩
        rw [List.getElem?_map] at hx'
        obtain ⟨v, hv, rfl⟩ := Option.map_eq_some_iff.mp hx'
        refine ⟨rfl, _, rfl, v, 1, rfl, rfl, _, hD, ?_, ?_, ?_⟩
        · rw [List.length_map, List.length_map, List.length_take]
          exact small1000 (by omega)
        · intro c o hc
          rw [upd_ne (ne_of_none hc nD)]
          exact sm' c o hc
        · rw [upd_same, List.take_add_one, hv, List.map_append, List.map_append]
          rfl
      rintro G3 ⟨s3, hD⟩
      rw [List.length_map, List.take_length] at hD
      refine ⟨D, _, rfl, .inl ⟨SqL.of hD, fun u nu => ?_⟩⟩
      have s4 := same_upd (o := HO.tup ((xs.map fun x => x - 1).map V.int)) nu
      have s34 := s3.trans s4
      refine q u (xs.map fun x => x - 1) _ ?_ (fun c o hc e => s34 _ _ (x2 _ _ hc (by rw [k1 c hc]; exact e))) (x02.trans (.of_same s34)) upd_same (fun x hx' => ?_) (by rw [List.length_map]; omega) ?_ ?_
      · obtain ⟨bo, bz⟩ := B2.get
        exact (B2.at (by rw [s34 _ _ bz, bz])).le (by omega)
      · obtain ⟨v, hv, rfl⟩ := List.mem_map.mp hx'
        have := hx v hv
        omega
      · rw [sum_less, hs]; omega
      · rw [sum_less, hs]; omega
/-- how a goal stands -/
def spSta : Sp := fun vs H Q _ => ∃ (a g d : Addr) (ns os : List Int) (En : List (List Int × Int)), vs = [.ref a, .ref g, .ref d] ∧ Row H a ns ∧ Row H g os ∧ H d = some (.dT (En.map dE)) ∧ (∀ o, o ∈ En.map Prod.fst ↔ Re ns o) ∧ Sm ns ∧ Q (.str (stW ns os)) H
theorem ok_sta {f : Addr} {fd : FuncData} {k : Nat} (F : Fun K "_law_state" "_law_state" sSta f fd) : FnOk P w K mg base CX0 (k + 1) f fd ["_law_row_here", "_law_goal_here", "_law_comes_here"] spSta := by
  refine F.ok scSta (fun vs H Q E h => ?_) (fun cdv A outer s H vs Q E hr h => ?_)
  · obtain ⟨a, g, d, ns, os, En, rfl, _⟩ := h
    rfl
  · obtain ⟨a, g, d, ns, os, En, rfl, ra, rg, ed, all, sm, q⟩ := h
    have hu : (A.deeper (envOfC "_law_state" (defScope sSta) s.heap.objs.size f cdv)).units + 1 < cLine := by have := hr.un; omega
    refine ⟨_, pss_one (ps_ret (pe_ifExp (pt_cmpR (op_eqD hr.units) (pv 0) (pv 1) (nomark _)) pe_str (pe_ifExp (pt_cmp (pc_din hu (pv 1) (pv 2))) pe_str pe_str))), ?_⟩
    refine ⟨_, rfl, _, rfl, _, _, .tup (SqT.of ra.1) (dpIntsG ns), .tup (SqT.of rg.1) (dpIntsG os), shapedT_ints ns, shapedT_ints os, _, rfl, ?_⟩
    rw [eqv_rows]
    unfold stW at q
    refine ite2 (fun he => ?_) (fun he => ?_)
    · rw [if_pos (of_decide_eq_true he)] at q
      exact q
    rw [if_neg (fun z => he (decide_eq_true z))] at q
    have ri := sm.iff (o := os) fun n hn => (rg.2.1 n hn).1
    by_cases hb : brkF ns os = []
    · rw [if_pos hb] at q
      obtain ⟨c, hc'⟩ := valE_some ((all os).mpr (ri.mpr hb))
      exact ⟨_, rfl, _, rfl, d, some (.int c), rfl, by rw [← hc']; exact DGet.t ed (by rw [kR_map]; exact rg.1), _, rfl, iteT q⟩
    · rw [if_neg hb] at q
      refine ⟨_, rfl, _, rfl, d, _, rfl, DGet.t ed (k := kR os) (by rw [kR_map]; exact rg.1), ?_⟩
      rw [valE_none (fun z => hb (ri.mp ((all os).mp z)))]
      exact ⟨_, rfl, iteF q⟩
end
end K56

/-! MRb: goals put anew, names of a dict whose values are True -/
namespace MG
open PySem PySem.Spec PyProof.Rows L2
def putN (es : List (Str × Addr × List Int)) (z : Str) (v : Addr × List Int) : List (Str × Addr × List Int) :=
  if (es.any fun e => decide (e.1 = z)) = true then es.map (fun e => if e.1 = z then (e.1, v) else e) else es ++ [(z, v)]
theorem any_name {es : List (Str × Addr × List Int)} {z : Str} : (es.any fun e => decide (e.1 = z)) = true ↔ z ∈ es.map Prod.fst := by
  rw [List.any_eq_true, List.mem_map]
  exact ⟨fun ⟨e, h, q⟩ => ⟨e, h, of_decide_eq_true q⟩, fun ⟨e, h, q⟩ => ⟨e, h, decide_eq_true q⟩⟩
theorem gK_putN (es : List (Str × Addr × List Int)) (z : Str) (q : Addr) (os : List Int) : putK (es.map gK) (.inr z) (.ref q) = (putN es z (q, os)).map gK := by
  have e1 : ((es.map gK).any fun kv => decide (kv.1 = .inr z)) = es.any fun e => decide (e.1 = z) := by
    rw [List.any_map]
    congr 1
    funext e
    show decide ((Sum.inr e.1 : Key) = .inr z) = decide (e.1 = z)
    rw [Bool.eq_iff_iff, decide_eq_true_iff, decide_eq_true_iff]
    exact ⟨fun h => Sum.inr.inj h, fun h => by rw [h]⟩
  unfold putK putN
  rw [e1]
  by_cases h : (es.any fun e => decide (e.1 = z)) = true
  · rw [if_pos h, if_pos h, List.map_map, List.map_map]
    refine List.map_congr_left fun e _ => ?_
    show (if (Sum.inr e.1 : Key) = .inr z then ((Sum.inr e.1 : Key), V.ref q) else gK e) = gK (if e.1 = z then (e.1, q, os) else e)
    by_cases c : e.1 = z
    · rw [if_pos (by rw [c]), if_pos c]; rfl
    · rw [if_neg (fun w => c (Sum.inr.inj w)), if_neg c]
  · rw [if_neg h, if_neg h, List.map_append]; rfl
theorem putN_keys (es : List (Str × Addr × List Int)) (z : Str) (v : Addr × List Int) : (putN es z v).map Prod.fst = if z ∈ es.map Prod.fst then es.map Prod.fst else es.map Prod.fst ++ [z] := by
  unfold putN
  by_cases h : (es.any fun e => decide (e.1 = z)) = true
  · rw [if_pos h, if_pos (any_name.mp h), List.map_map]
    refine List.map_congr_left fun e _ => ?_
    show (if e.1 = z then (e.1, v) else e).1 = e.1
    split <;> rfl
  · rw [if_neg h, if_neg (fun w => h (any_name.mpr w)), List.map_append]; rfl
theorem putN_nd {es : List (Str × Addr × List Int)} {z : Str} {v : Addr × List Int} (nd : (es.map Prod.fst).Nodup) : ((putN es z v).map Prod.fst).Nodup := by
  rw [putN_keys]
  split
  · exact nd
  · rename_i h
    rw [List.nodup_append]
    refine ⟨nd, by simp, fun a ha b hb e => ?_⟩
    rw [List.mem_singleton.mp hb] at e
    exact h (e ▸ ha)
theorem putN_mem {es : List (Str × Addr × List Int)} {z : Str} {v : Addr × List Int} {e : Str × Addr × List Int} : e ∈ putN es z v ↔ e = (z, v) ∨ (e ∈ es ∧ e.1 ≠ z) := by
  unfold putN
  by_cases h : (es.any fun e => decide (e.1 = z)) = true
  · rw [if_pos h, List.mem_map]
    constructor
    · rintro ⟨d, hd, rfl⟩
      by_cases c : d.1 = z
      · rw [if_pos c, c]; exact .inl rfl
      · rw [if_neg c]; exact .inr ⟨hd, c⟩
    · rintro (rfl | ⟨hd, c⟩)
      · obtain ⟨d, hd, c⟩ := List.mem_map.mp (any_name.mp h)
        exact ⟨d, hd, by rw [if_pos c, c]⟩
      · exact ⟨e, hd, by rw [if_neg c]⟩
  · rw [if_neg h, List.mem_append, List.mem_singleton]
    constructor
    · rintro (hd | rfl)
      · exact .inr ⟨hd, fun c => h (any_name.mpr (List.mem_map.mpr ⟨e, hd, c⟩))⟩
      · exact .inl rfl
    · rintro (rfl | ⟨hd, _⟩)
      · exact .inr rfl
      · exact .inl hd
theorem byN_put {es : List (Str × Addr × List Int)} {z : Str} {v : Addr × List Int} (nd : (es.map Prod.fst).Nodup) : byN (putN es z v) z = v.2 :=
  byN_mem (e := (z, v)) (putN_nd nd) (putN_mem.mpr (.inl rfl))
theorem byN_other {es : List (Str × Addr × List Int)} {z z' : Str} {v : Addr × List Int} (nd : (es.map Prod.fst).Nodup) (h : z' ∈ es.map Prod.fst) (ne : z' ≠ z) : byN (putN es z v) z' = byN es z' := by
  obtain ⟨e, he, rfl⟩ := List.mem_map.mp h
  rw [byN_mem nd he, byN_mem (putN_nd nd) (putN_mem.mpr (.inr ⟨he, ne⟩))]
theorem putN_len (es : List (Str × Addr × List Int)) (z : Str) (v : Addr × List Int) : (putN es z v).length ≤ es.length + 1 := by
  unfold putN
  split
  · rw [List.length_map]; omega
  · rw [List.length_append]; exact Nat.le_refl _
/-- names, each with True -/
def lK (z : Str) : Key × V := (.inr z, .bl true)
theorem lK_get (L : List Str) (z : Str) : valV (L.map lK) (.inr z) = if z ∈ L then some (.bl true) else none := by
  induction L with
  | nil => rfl
  | cons y L ih =>
    rw [List.map_cons]
    by_cases c : y = z
    · rw [valV_pos (by rw [c]; rfl), if_pos (by rw [c]; exact List.mem_cons_self)]; rfl
    · rw [valV_neg (fun w => c (Sum.inr.inj w)), ih]
      by_cases h : z ∈ L
      · rw [if_pos h, if_pos (List.mem_cons_of_mem _ h)]
      · rw [if_neg h, if_neg (fun w => by exact (List.mem_cons.mp w).elim (fun w => c w.symm) h)]
theorem lK_drop (L : List Str) (z : Str) : dropK (L.map lK) (.inr z) = (L.filter fun y => decide (y ≠ z)).map lK := by
  unfold dropK
  rw [List.filter_map]
  congr 1
  refine List.filter_congr fun y _ => ?_
  show decide ((Sum.inr y : Key) ≠ .inr z) = decide (y ≠ z)
  rw [Bool.eq_iff_iff, decide_eq_true_iff, decide_eq_true_iff]
  exact ⟨fun h w => h (by rw [w]), fun h w => h (Sum.inr.inj w)⟩
def putL (L : List Str) (z : Str) : List Str := if z ∈ L then L else L ++ [z]
theorem lK_put (L : List Str) (z : Str) : putK (L.map lK) (.inr z) (.bl true) = (putL L z).map lK := by
  by_cases h : z ∈ L
  · unfold putL putK
    rw [if_pos h, if_pos]
    · rw [List.map_map]
      refine List.map_congr_left fun y _ => ?_
      show (if (Sum.inr y : Key) = .inr z then ((Sum.inr y : Key), V.bl true) else lK y) = lK y
      split <;> rfl
    · rw [List.any_eq_true]
      exact ⟨lK z, List.mem_map.mpr ⟨z, h, rfl⟩, decide_eq_true rfl⟩
  · rw [putK_new _ (by rw [lK_get, if_neg h])]
    unfold putL
    rw [if_neg h, List.map_append]; rfl
theorem putL_mem {L : List Str} {z y : Str} : y ∈ putL L z ↔ y ∈ L ∨ y = z := by
  unfold putL
  split
  · rename_i h
    exact ⟨.inl, fun w => w.elim id fun e => e ▸ h⟩
  · rw [List.mem_append, List.mem_singleton]
theorem putL_nd {L : List Str} {z : Str} (nd : L.Nodup) : (putL L z).Nodup := by
  unfold putL
  split
  · exact nd
  · rename_i h
    rw [List.nodup_append]
    refine ⟨nd, by simp, fun a ha b hb e => ?_⟩
    rw [List.mem_singleton.mp hb] at e
    exact h (e ▸ ha)
end MG

namespace K56
open PySem PySem.Spec PyProof.Rows L2 MG LamX
abbrev sTurn : Stmt := topS 63
abbrev nTurn : List Str := ["_law_box_here", "_law_store", "_law_goals", "_law_lost", "_law_there", "_law_here", "_law_way", "_law_name", "_law_some", "_law_behind", "_law_place", "_law_i"]
theorem scTurn : FnScope ["_law_box_here", "_law_store", "_law_goals", "_law_lost", "_law_there", "_law_here", "_law_way", "_law_name", "_law_some", "_law_behind", "_law_place", "_law_i"] ["_law_box_here", "_law_store", "_law_goals", "_law_lost", "_law_there"] (defScope sTurn) := ⟨rfl, rfl, rfl, by decide +kernel, rfl, by decide +kernel, by decide +kernel⟩

/-- the box, a store and a dict of goals -/
structure Wd (C b x ls lm la g : Addr) (H0 H : Hp) (n : Nat) (rows calls : List (Addr × List Int)) (es ds : List (Str × Addr × List Int)) : Prop where
  B : Box H b n
  S : StA C H x ls lm la rows calls (es.map gK)
  D : H g = some (.dK (ds.map gK))
  ge : GoOk H es
  gd : GoOk H ds
  lsb : ls ≠ b
  lmb : lm ≠ b
  lag : la ≠ g
  X : SX b H0 H
  fl : H0 ls = none
  fm : H0 lm = none
  fa : H0 la = none
  fg : H0 g = none
section
variable {C b x ls lm la g : Addr} {H0 H H' : Hp} {n n' : Nat} {rows calls rows' calls' : List (Addr × List Int)} {es ds es' ds' : List (Str × Addr × List Int)}
theorem GoOk.keep (h : GoOk H es) (k : ∀ c xs, H c = some (.tup xs) → H' c = some (.tup xs)) : GoOk H' es := ⟨h.nm, fun e he => ⟨k _ _ (h.rw e he).1, (h.rw e he).2⟩, h.nd, h.few⟩
theorem boxBy (h : Box H b n) (k : ∀ o, H b = some o → H' b = some o) : Box H' b n := by
  obtain ⟨o, m, c, e, r⟩ := h
  exact ⟨o, m, c, k _ e, r⟩
theorem Wd.same (w : Wd C b x ls lm la g H0 H n rows calls es ds) (s : Same H H') : Wd C b x ls lm la g H0 H' n rows calls es ds :=
  ⟨boxBy w.B fun o e => s _ _ e, w.S.same s, s _ _ w.D, w.ge.same s, w.gd.same s, w.lsb, w.lmb, w.lag, w.X.trans (.of_same s), w.fl, w.fm, w.fa, w.fg⟩
theorem Wd.draw (w : Wd C b x ls lm la g H0 H n rows calls es ds) (B' : Box H' b n') (k : ∀ a, a ≠ b → H' a = H a) : Wd C b x ls lm la g H0 H' n' rows calls es ds := by
  obtain ⟨o, m, c, e, r⟩ := w.B
  have tu : ∀ c xs, H c = some (.tup xs) → H' c = some (.tup xs) := fun c xs h => by rw [k c (fun z => by rw [z, e] at h; cases h)]; exact h
  exact ⟨B', w.S.off e w.lsb w.lmb fun a o' ha h _ => by rw [k a ha]; exact h, by rw [k g (fun z => by have := w.D; rw [z, e] at this; cases this)]; exact w.D, w.ge.keep tu, w.gd.keep tu, w.lsb, w.lmb, w.lag, w.X.trans (.of_eq k), w.fl, w.fm, w.fa, w.fg⟩
/-- a give, or a back -/
theorem Wd.give (w : Wd C b x ls lm la g H0 H n rows calls es ds) (k : ∀ c o, c ≠ ls → c ≠ lm → H c = some o → H' c = some o) (S' : StA C H' x ls lm la rows' calls' (es.map gK)) : Wd C b x ls lm la g H0 H' n rows' calls' es ds := by
  have l1 := w.S.stood.1
  have l2 := w.S.made.1
  have tu : ∀ c xs, H c = some (.tup xs) → H' c = some (.tup xs) := fun c xs h => k c _ (fun z => by rw [z, l1] at h; cases h) (fun z => by rw [z, l2] at h; cases h) h
  exact ⟨boxBy w.B fun o e => k _ _ w.lsb.symm w.lmb.symm e, S', k _ _ (fun z => by have := w.D; rw [z, l1] at this; cases this) (fun z => by have := w.D; rw [z, l2] at this; cases this) w.D, w.ge.keep tu, w.gd.keep tu, w.lsb, w.lmb, w.lag, fun c o nb h => k _ _ (ne_of_none h w.fl) (ne_of_none h w.fm) (w.X c o nb h), w.fl, w.fm, w.fa, w.fg⟩
/-- a goal kept by the dict -/
theorem Wd.put (w : Wd C b x ls lm la g H0 H n rows calls es ds) (G : GoOk H ds') : Wd C b x ls lm la g H0 (upd H g (.dK (ds'.map gK))) n rows calls es ds' := by
  have tu : ∀ c xs, H c = some (.tup xs) → upd H g (.dK (ds'.map gK)) c = some (.tup xs) := fun c xs h => by rw [upd_ne (fun z => by have := w.D; rw [← z, h] at this; cases this)]; exact h
  obtain ⟨⟨dx, i⟩, st, ma, ai, ne⟩ := w.S
  have dif : ∀ {c : Addr} {o : HO}, H c = some o → (∀ q, o ≠ .dK q) → upd H g (.dK (ds'.map gK)) c = some o := fun {c o} h q => by
    rw [upd_ne (fun z => by have := w.D; rw [← z, h] at this; exact q _ (Option.some.inj this))]; exact h
  obtain ⟨o, m, c, e, r⟩ := w.B
  exact ⟨⟨o, m, c, dif e (fun _ z => nomatch z), r⟩, ⟨⟨dx, dif i (fun _ z => nomatch z)⟩, ⟨dif st.1 (fun _ z => nomatch z), fun e he => tu _ _ (st.2 e he)⟩, ⟨dif ma.1 (fun _ z => nomatch z), fun e he => tu _ _ (ma.2 e he)⟩, by rw [upd_ne w.lag]; exact ai, ne⟩, upd_same, w.ge.keep tu, G.keep tu, w.lsb, w.lmb, w.lag, fun c o nb h => by rw [upd_ne (ne_of_none h w.fg)]; exact w.X c o nb h, w.fl, w.fm, w.fa, w.fg⟩
/-- a goal kept by the store -/
theorem Wd.aim (w : Wd C b x ls lm la g H0 H n rows calls es ds) (k : ∀ c o, c ≠ la → H c = some o → H' c = some o) (S' : StA C H' x ls lm la rows calls (es'.map gK)) (G : GoOk H es') : Wd C b x ls lm la g H0 H' n rows calls es' ds := by
  have l1 := w.S.aims
  have tu : ∀ c xs, H c = some (.tup xs) → H' c = some (.tup xs) := fun c xs h => k c _ (fun z => by rw [z, l1] at h; cases h) h
  obtain ⟨o, m, c, e, r⟩ := id w.B
  exact ⟨⟨o, m, c, k _ _ (fun z => by rw [z, l1] at e; cases e) e, r⟩, S', k _ _ w.lag.symm w.D, G.keep tu, w.gd.keep tu, w.lsb, w.lmb, w.lag, fun c o nb h => k _ _ (ne_of_none h w.fa) (w.X c o nb h), w.fl, w.fm, w.fa, w.fg⟩
end
theorem Wd.le {C b x ls lm la g : Addr} {H0 H : Hp} {n n' : Nat} {rows calls : List (Addr × List Int)} {es ds : List (Str × Addr × List Int)} (w : Wd C b x ls lm la g H0 H n rows calls es ds) (h : n ≤ n') : Wd C b x ls lm la g H0 H n' rows calls es ds :=
  ⟨w.B.le h, w.S, w.D, w.ge, w.gd, w.lsb, w.lmb, w.lag, w.X, w.fl, w.fm, w.fa, w.fg⟩
theorem row16 {H : Hp} {a : Addr} {ns : List Int} (nn : ∀ n ∈ ns, 0 ≤ n) (s1 : 0 < ns.sum) (h2 : ns.sum ≤ 16) (l5 : ns.length ≤ 40) (e : H a = some (.tup (ns.map V.int))) : Row H a ns := by
  refine ⟨e, fun n hn => ⟨nn n hn, ?_⟩, by omega, ?_⟩
  · have h1 := mem_le_sumG nn n hn
    have : (16 : Int) < 2 ^ 250 := by decide
    omega
  · refine Classical.byContradiction fun z => ?_
    have : ns.sum = 0 := sum_zero fun n hn => by
      have := nn n hn
      exact Decidable.byContradiction fun y => z ⟨n, hn, by omega⟩
    omega
theorem Sm.row {H : Hp} {a : Addr} {ns : List Int} (h : Sm ns) (e : H a = some (.tup (ns.map V.int))) : Row H a ns := row16 h.nn h.s1 h.s16 (by have := h.l5; omega) e
theorem stW_lost {r o : List Int} : (stW r o = "lost") ↔ brkF r o ≠ [] := by
  unfold stW
  by_cases e : r = o
  · rw [if_pos e, e]
    exact ⟨fun z => absurd z (by decide +kernel), fun z => absurd (brkF_nil.mpr (.inl rfl)) z⟩
  · rw [if_neg e]
    by_cases e2 : brkF r o = []
    · rw [if_pos e2]
      exact ⟨fun z => absurd z (by decide +kernel), fun z => absurd e2 z⟩
    · rw [if_neg e2]
      exact ⟨fun _ => e2, fun _ => rfl⟩
theorem row16' {H : Hp} {a : Addr} {ns : List Int} (nn : ∀ n ∈ ns, 0 ≤ n) (s1 : 0 < ns.sum) (h2 : ns.sum ≤ 17) (l5 : ns.length ≤ 40) (e : H a = some (.tup (ns.map V.int))) : Row H a ns := by
  refine ⟨e, fun n hn => ⟨nn n hn, ?_⟩, by omega, ?_⟩
  · have h1 := mem_le_sumG nn n hn
    have : (17 : Int) < 2 ^ 250 := by decide
    omega
  · refine Classical.byContradiction fun z => ?_
    have : ns.sum = 0 := sum_zero fun n hn => by
      have := nn n hn
      exact Decidable.byContradiction fun y => z ⟨n, hn, by omega⟩
    omega
abbrev nm6 : List Str := ["a", "b", "ab", "z", "abcdefgh", "m"]
theorem nm6_ok : ∀ z ∈ nm6, nmB z = true ∧ (reprText z).length ≤ 20 := by decide +kernel
/-- what is lost, by its names -/
def LostOk (ns : List Int) (es : List (Str × Addr × List Int)) (L : List Str) : Prop := ∀ z ∈ L, z ∈ es.map Prod.fst ∧ brkF ns (byN es z) ≠ []
structure Wl (C b x ls lm la g lo : Addr) (H0 H : Hp) (n : Nat) (rows calls : List (Addr × List Int)) (es : List (Str × Addr × List Int)) (L : List Str) : Prop where
  W : Wd C b x ls lm la g H0 H n rows calls es es
  dl : H lo = some (.dK (L.map lK))
  la' : lo ≠ la
  lg : lo ≠ g
  fl : H0 lo = none
  nd : L.Nodup
  nm : ∀ e ∈ es, e.1 ∈ nm6
  ll : L.length ≤ es.length
section
variable {C b x ls lm la g lo : Addr} {H0 H H' : Hp} {n n' : Nat} {rows calls rows' calls' : List (Addr × List Int)} {es es' : List (Str × Addr × List Int)} {L L' : List Str}
theorem Wl.off (w : Wl C b x ls lm la g lo H0 H n rows calls es L) : lo ≠ b ∧ lo ≠ ls ∧ lo ≠ lm := by
  refine ⟨fun z => ?_, fun z => ?_, fun z => ?_⟩
  · obtain ⟨_, _, _, e, _⟩ := w.W.B
    rw [← z, w.dl] at e; cases e
  · have e := w.W.S.stood.1
    rw [← z, w.dl] at e; cases e
  · have e := w.W.S.made.1
    rw [← z, w.dl] at e; cases e
theorem Wl.by (w : Wl C b x ls lm la g lo H0 H n rows calls es L) (W' : Wd C b x ls lm la g H0 H' n' rows' calls' es es) (k : H' lo = H lo) : Wl C b x ls lm la g lo H0 H' n' rows' calls' es L :=
  ⟨W', by rw [k]; exact w.dl, w.la', w.lg, w.fl, w.nd, w.nm, w.ll⟩
theorem Wl.same (w : Wl C b x ls lm la g lo H0 H n rows calls es L) (s : Same H H') : Wl C b x ls lm la g lo H0 H' n rows calls es L := w.by (w.W.same s) ((s _ _ w.dl).trans w.dl.symm)
theorem Wl.draw (w : Wl C b x ls lm la g lo H0 H n rows calls es L) (B' : Box H' b n') (k : ∀ a, a ≠ b → H' a = H a) : Wl C b x ls lm la g lo H0 H' n' rows calls es L := w.by (w.W.draw B' k) (k _ w.off.1)
theorem Wl.give (w : Wl C b x ls lm la g lo H0 H n rows calls es L) (k : ∀ c o, c ≠ ls → c ≠ lm → H c = some o → H' c = some o) (S' : StA C H' x ls lm la rows' calls' (es.map gK)) : Wl C b x ls lm la g lo H0 H' n rows' calls' es L :=
  w.by (w.W.give k S') ((k _ _ w.off.2.1 w.off.2.2 w.dl).trans w.dl.symm)
theorem Wl.le (w : Wl C b x ls lm la g lo H0 H n rows calls es L) (h : n ≤ n') : Wl C b x ls lm la g lo H0 H n' rows calls es L := w.by (w.W.le h) rfl
theorem Wd.drawN {ds : List (Str × Addr × List Int)} (w : Wd C b x ls lm la g H0 H n rows calls es ds) (B' : Box H' b n') (k : ∀ c o, c ≠ b → H c = some o → H' c = some o) : Wd C b x ls lm la g H0 H' n' rows calls es ds := by
  obtain ⟨o, m, c, e, r⟩ := w.B
  have tu : ∀ c xs, H c = some (.tup xs) → H' c = some (.tup xs) := fun c xs h => k c _ (fun z => by rw [z, e] at h; cases h) h
  exact ⟨B', w.S.off e w.lsb w.lmb fun a o' ha h _ => k a _ ha h, k _ _ (fun z => by have := w.D; rw [z, e] at this; cases this) w.D, w.ge.keep tu, w.gd.keep tu, w.lsb, w.lmb, w.lag, fun c o' nb h => k c o' nb (w.X c o' nb h), w.fl, w.fm, w.fa, w.fg⟩
theorem Wl.drawN (w : Wl C b x ls lm la g lo H0 H n rows calls es L) (B' : Box H' b n') (k : ∀ c o, c ≠ b → H c = some o → H' c = some o) : Wl C b x ls lm la g lo H0 H' n' rows calls es L := w.by (w.W.drawN B' k) ((k _ _ w.off.1 w.dl).trans w.dl.symm)
/-- what is lost is told anew -/
theorem Wd.loU (W : Wd C b x ls lm la g H0 H n rows calls es es) (L : H lo = some (.dK (L'.map lK))) (la' : lo ≠ la) (lg : lo ≠ g) (fl : H0 lo = none) (o : HO) (ho : ∃ q, o = .dK q) : Wd C b x ls lm la g H0 (upd H lo o) n rows calls es es := by
  have dif : ∀ {c : Addr} {o' : HO}, H c = some o' → (∀ q, o' ≠ .dK q) → upd H lo o c = some o' := fun {c o'} h q => by
    rw [upd_ne (fun z => by rw [z, L] at h; exact q _ (Option.some.inj h).symm)]; exact h
  have tu : ∀ c xs, H c = some (.tup xs) → upd H lo o c = some (.tup xs) := fun c xs h => dif h fun _ z => nomatch z
  obtain ⟨⟨dx, i⟩, st, ma, ai, ne⟩ := W.S
  obtain ⟨ob, m, c, e, r⟩ := W.B
  exact ⟨⟨ob, m, c, dif e (fun _ z => nomatch z), r⟩, ⟨⟨dx, dif i (fun _ z => nomatch z)⟩, ⟨dif st.1 (fun _ z => nomatch z), fun e he => tu _ _ (st.2 e he)⟩, ⟨dif ma.1 (fun _ z => nomatch z), fun e he => tu _ _ (ma.2 e he)⟩, by rw [upd_ne la'.symm]; exact ai, ne⟩, by rw [upd_ne lg.symm]; exact W.D, W.ge.keep tu, W.gd.keep tu, W.lsb, W.lmb, W.lag, fun c o' nb h => by
    rw [upd_ne (ne_of_none h fl)]; exact W.X c o' nb h, W.fl, W.fm, W.fa, W.fg⟩
theorem Wl.lost (w : Wl C b x ls lm la g lo H0 H n rows calls es L) (nd' : L'.Nodup) (ll' : L'.length ≤ es.length) : Wl C b x ls lm la g lo H0 (upd H lo (.dK (L'.map lK))) n rows calls es L' :=
  ⟨w.W.loU w.dl w.la' w.lg w.fl _ ⟨_, rfl⟩, upd_same, w.la', w.lg, w.fl, nd', w.nm, ll'⟩
theorem put_off1 {A R : Hp → Prop} {Goal : Prop} (main : (∀ G, A G → R G) → Goal) (rest : ∀ G, A G → R G) : Goal := main rest
theorem pairsOf {ns : List Int} : ∀ {ts : List Addr}, Nx H ns ts → ∃ ks : List (Addr × List Int), ks.map Prod.fst = ts ∧ ∀ p ∈ ks, H p.1 = some (.tup (p.2.map V.int)) ∧ ∃ i j, MayG ns i j ∧ p.2 = MG.deed ns i j
  | [], _ => ⟨[], rfl, fun p h => nomatch h⟩
  | t :: ts, h => by
    obtain ⟨i, j, m, e⟩ := h t List.mem_cons_self
    obtain ⟨ks, h1, h2⟩ := pairsOf (ts := ts) fun u hu => h u (List.mem_cons_of_mem _ hu)
    refine ⟨(t, MG.deed ns i j) :: ks, by rw [List.map_cons, h1], fun p hp => ?_⟩
    rcases List.mem_cons.mp hp with rfl | hp
    · exact ⟨e, i, j, m, rfl⟩
    · exact h2 p hp
theorem dpPairs {K : PySem.W.Frag} : ∀ {ks : List (Addr × List Int)}, (∀ p ∈ ks, H p.1 = some (.tup (p.2.map V.int))) → DpAll K H (ks.map fun p => V.ref p.1) ((ks.map (·.2)).map rowDt)
  | [], _ => .nil
  | p :: ks, h => .cons (.tup (SqT.of (h p List.mem_cons_self)) (dpInts p.2)) (dpPairs fun q hq => h q (List.mem_cons_of_mem _ hq))
theorem LostOk.deed {ns : List Int} {i j : Nat} (h : LostOk ns es L) (sm : Sm ns) (m : MayG ns i j) (ge : GoOk H es) : LostOk (deed ns i j) es L := fun z hz => by
  obtain ⟨h1, h2⟩ := h z hz
  refine ⟨h1, fun hb => h2 ?_⟩
  obtain ⟨e, he, rfl⟩ := List.mem_map.mp h1
  rw [byN_mem ge.nd he] at hb ⊢
  have no : ∀ n ∈ e.2.2, 0 ≤ n := fun n hn => ((ge.rw e he).2.1 n hn).1
  have r1 := ((sm.deed m).iff no).mpr hb
  exact (sm.iff no).mp ((Re.step .refl m).trans r1)
theorem LostOk.put {ns : List Int} {z : Str} {v : Addr × List Int} (h : LostOk ns es L) (nd : (es.map Prod.fst).Nodup) : LostOk ns (putN es z v) (L.filter fun y => decide (y ≠ z)) := fun y hy => by
  obtain ⟨hy1, hy2⟩ := List.mem_filter.mp hy
  have ne : y ≠ z := of_decide_eq_true hy2
  obtain ⟨h1, h2⟩ := h y hy1
  refine ⟨?_, by rw [byN_other nd h1 ne]; exact h2⟩
  rw [putN_keys]
  split
  · exact h1
  · exact List.mem_append_left _ h1
end
section
variable {P : Program} {w : World} {K : PySem.W.Frag} {mg : Str → Option Value} {base : Heap}
def spTurn (C : Addr) : Sp := fun vs H Q _ => ∃ (b x ls lm la g lo th a : Addr) (H0 : Hp) (n : Nat) (rs calls : List (Addr × List Int)) (ns : List Int) (es : List (Str × Addr × List Int)) (L : List Str) (ys : List V), vs = [.ref b, .ref x, .ref g, .ref lo, .ref th] ∧
  Wl C b x ls lm la g lo H0 H n (rs ++ [(a, ns)]) calls es L ∧ n ≤ 50000 ∧ Sm ns ∧ (∀ r ∈ rs, Sm r.2) ∧ rs.length ≤ 50 ∧ calls.length = rs.length ∧ es.length ≤ 50 ∧ LostOk ns es L ∧ H th = some (.lst ys) ∧ b ≠ th ∧ 1 ≤ ys.length ∧ ys.length ≤ 10000000 ∧ Cm H ns ys ∧
  ∀ H' (rs' calls' : List (Addr × List Int)) (a' : Addr) (ns' : List Int) (es' : List (Str × Addr × List Int)) (L' : List Str), Wl C b x ls lm la g lo H0 H' (n + 100) (rs' ++ [(a', ns')]) calls' es' L' → Sm ns' → (∀ r ∈ rs', Sm r.2) → rs'.length ≤ rs.length + 1 → calls'.length = rs'.length → es'.length ≤ es.length + 1 → LostOk ns' es' L' →
    (∀ c o, c ≠ b → c ≠ ls → c ≠ lm → c ≠ la → c ≠ g → c ≠ lo → H c = some o → H' c = some o) → Q .non H'
theorem ok_turn {f fT fO fW fGi fAi fBa fCa fN fGl C : Addr} {fd fdT fdO fdW fdGi fdAi fdBa fdCa fdN fdGl : FuncData} {k : Nat} (F : Fun K "_law_turn" "_law_turn" sTurn f fd)
    (FT : Fun K "_law_take" "_law_take" sTake fT fdT) (bT : Binds K fdT ["_law_box_here", "_law_many"] []) (gT : mg "_law_take" = some (.ref fT))
    (FO : Fun K "_law_of" "_law_of" sOf fO fdO) (bO : Binds K fdO ["_law_box_here", "_law_some"] []) (gO : mg "_law_of" = some (.ref fO))
    (ST : StT K C)
    (FMRow : Fun K "row" "Store.row" sMRow fW fdW) (bMRow : Binds K fdW ["self"] []) (mMRow : Meth K C "row" fW)
    (FMGive : Fun K "give" "Store.give" sMGive fGi fdGi) (bMGive : Binds K fdGi ["self", "i", "j"] []) (mMGive : Meth K C "give" fGi) (GMGive : FnOk P w K mg base CX0 (k + 6) fGi fdGi ["self", "i", "j"] (spMGive C))
    (FMAim : Fun K "aim" "Store.aim" sMAim fAi fdAi) (bMAim : Binds K fdAi ["self", "name", "other"] []) (mMAim : Meth K C "aim" fAi) (GMAim : FnOk P w K mg base CX0 (k + 3) fAi fdAi ["self", "name", "other"] (spMAim C))
    (FMBack : Fun K "back" "Store.back" sMBack fBa fdBa) (bMBack : Binds K fdBa ["self"] []) (mMBack : Meth K C "back" fBa)
    (FMCalls : Fun K "calls" "Store.calls" sMCalls fCa fdCa) (bMCalls : Binds K fdCa ["self"] []) (mMCalls : Meth K C "calls" fCa)
    (FN : Fun K "_law_next" "_law_next" sNext fN fdN) (bN : Binds K fdN ["_law_row_here"] []) (gN : mg "_law_next" = some (.ref fN)) (GN : FnOk P w K mg base CX0 (k + 2) fN fdN ["_law_row_here"] spNext)
    (FGl : Fun K "_law_goal" "_law_goal" sGl fGl fdGl) (bGl : Binds K fdGl ["_law_box_here", "_law_row_here", "_law_some"] []) (gGl : mg "_law_goal" = some (.ref fGl)) (GGl : FnOk P w K mg base CX0 (k + 3) fGl fdGl ["_law_box_here", "_law_row_here", "_law_some"] spGl)
    (m_len : mg "len" = none) (m_range : mg "range" = none) (m_sorted : mg "sorted" = none) (m_set : mg "set" = none) :
    FnOk P w K mg base CX0 (k + 7) f fd ["_law_box_here", "_law_store", "_law_goals", "_law_lost", "_law_there"] (spTurn C) := by
  have GT : FnOk P w K mg base CX0 (k + 1) fT fdT ["_law_box_here", "_law_many"] spTake := ok_take FT
  have GO : FnOk P w K mg base CX0 (k + 2) fO fdO ["_law_box_here", "_law_some"] spOf := ok_of FO FT bT gT m_len
  have GMRow : FnOk P w K mg base CX0 (k + 1) fW fdW ["self"] (spMRow C) := ok_mrow FMRow ST
  have GMBack : FnOk P w K mg base CX0 (k + 1) fBa fdBa ["self"] (spMBack C) := ok_mback FMBack ST
  have GMCalls : FnOk P w K mg base CX0 (k + 1) fCa fdCa ["self"] (spMCalls C) := ok_mcalls FMCalls ST m_len
  have noR : ∀ ls lm la : Addr, (sF ls lm la).lookup ("row" : Str) = none := fun _ _ _ => sF_no _ _ _ (by decide +kernel) (by decide +kernel) (by decide +kernel)
  have noGi : ∀ ls lm la : Addr, (sF ls lm la).lookup ("give" : Str) = none := fun _ _ _ => sF_no _ _ _ (by decide +kernel) (by decide +kernel) (by decide +kernel)
  have noAi : ∀ ls lm la : Addr, (sF ls lm la).lookup ("aim" : Str) = none := fun _ _ _ => sF_no _ _ _ (by decide +kernel) (by decide +kernel) (by decide +kernel)
  have noBa : ∀ ls lm la : Addr, (sF ls lm la).lookup ("back" : Str) = none := fun _ _ _ => sF_no _ _ _ (by decide +kernel) (by decide +kernel) (by decide +kernel)
  have noCa : ∀ ls lm la : Addr, (sF ls lm la).lookup ("calls" : Str) = none := fun _ _ _ => sF_no _ _ _ (by decide +kernel) (by decide +kernel) (by decide +kernel)
  refine F.ok scTurn (fun vs H Q E h => ?_) (fun cdv A outer s H vs Q E hr h => ?_)
  · obtain ⟨b, x, ls, lm, la, g, lo, th, a, H0, n, rs, calls, ns, es, L, ys, rfl, _⟩ := h
    rfl
  · obtain ⟨b, x, ls, lm, la, g, lo, th, a, H0, n, rs, calls, ns, es, L, ys, rfl, W0, hn, sm, srs, lrs, lcs, les, lost, et, bt, y1, y2, cm, want⟩ := h
    have hr6 := hr
    have hr3 := hr.mono (show k + 3 ≤ k + 6 by omega)
    have hr2 := hr.mono (show k + 2 ≤ k + 6 by omega)
    have hr1 := hr.mono (show k + 1 ≤ k + 6 by omega)
    have hu : (A.deeper (envOfC "_law_turn" (defScope sTurn) s.heap.objs.size f cdv)).units + 1 < cLine := by have := hr.un; omega
    have hu64 : (A.deeper (envOfC "_law_turn" (defScope sTurn) s.heap.objs.size f cdv)).units + 64 < cLine := by have := hr.un; omega
    refine ⟨_, pss_cons (ps_asg (pe_tup (pa_cons (pe_meth0 (pv 1) ST.cl mMRow GMRow hr1 bMRow .nil pass0) (pa_cons (pe_call GT hr1 (by rfl) gT FT.kp bT .nil pass0 (pa_cons (pv 0) (pa_cons pe_int pa_nil))) pa_nil))) (pg_tup rfl (pgs_cons (pg_name (i := 5) scTurn.nd rfl (.inr rfl)) (pgs_cons (pg_name (i := 6) scTurn.nd rfl (.inl rfl)) pgs_nil))))
      (pss_one (ps_if (PW.pt (pw_or (pt_cmpR op_lt (pv 6) pe_int (nomark _)) (pw_or1 (pt_cmpR (op_eqE hu64) (pv 2) (pe_dnewK) (nomark _))))) (pss_cons (ps_set (i := 7) scTurn.nd rfl (.inl rfl) (pe_call GO hr2 (by rfl) gO FO.kp bO .nil pass0 (pa_cons (pv 0) (pa_cons (pe_lst (pa_cons pe_str (pa_cons pe_str (pa_cons pe_str (pa_cons pe_str (pa_cons pe_str (pa_cons pe_str pa_nil))))))) pa_nil))))
      (pss_cons (ps_dput hu (pv 2) (pv 7) (pe_call GGl hr3 (by rfl) gGl FGl.kp bGl .nil pass0 (pa_cons (pv 0) (pa_cons (pv 5) (pa_cons (pv 4) pa_nil)))) rfl)
      (pss_cons (ps_expr (pe_meth (pv 1) ST.cl mMAim GMAim hr3 bMAim .nil pass0 (pa_cons (pv 7) (pa_cons (pe_dget hu (pv 2) (pv 7) (fun _ _ => rfl)) pa_nil))))
      (pss_one (ps_expr (pe_dpop2 (pv 3) (pv 7) pe_non ⟨rfl, rfl, rfl, rfl⟩)))))) (pss_one (ps_if (PW.pt (pw_and (pt_cmpR op_eq (pv 6) pe_int (nomark _)) (pw_and1 (pt_cmpR op_gt (pe_meth0 (pv 1) ST.cl mMCalls GMCalls hr1 bMCalls .nil pass0) pe_int (nomark _))))) (pss_cons (ps_expr (pe_meth0 (pv 1) ST.cl mMBack GMBack hr1 bMBack .nil pass0))
      (pss_one (ps_expr (pe_bm0 PySem.F.plainAttrs_dict PySem.F.slot_dict_clear PySem.F.type_dict_clear mtd_clear (pv 3))))) (pss_cons (ps_set (i := 8) scTurn.nd rfl (.inl rfl) (pe_callB (cr_sortedT rfl) (by rfl) m_sorted (by decide +kernel) (pa_cons (pe_callTy (cr_setOfT rfl hu64) (by rfl) m_set (by decide +kernel) (pa_cons (pe_call GN hr2 (by rfl) gN FN.kp bN .nil pass0 (pa_cons (pv 5) pa_nil)) pa_nil)) pa_nil)))
      (pss_one (ps_if (pt_cmpR (op_neD hr.units) (pv 8) (pe_lst pa_nil) (nomark _)) (pss_cons (ps_set (i := 9) scTurn.nd rfl (.inr rfl) (pe_call GO hr2 (by rfl) gO FO.kp bO .nil pass0 (pa_cons (pv 0) (pa_cons (pv 8) pa_nil))))
      (pss_cons (ps_set (i := 11) scTurn.nd rfl (.inl rfl) (pe_ix ix_list (pe_lc (own := [("_law_place", 10)]) (g := gName 10) (tt := (tTest (tOp _ (tOp (rIxT K) _ _) (tOp (rIxT K) _ _)))) rfl scTurn.nd (pi_range1 (by rfl) m_range (pa_cons (pe_callB call_len_seq (by rfl) m_len PySem.boot_len (pa_cons (pv 5) pa_nil)) pa_nil)) (blkOk_by (N := nTurn) (sc := defScope sTurn) (by decide +kernel)) (fun _ _ _ _ _ => pg_name (i := 10) scTurn.nd rfl (Or.inl rfl)) (fun _ _ _ _ _ => pts_one (pt_cmpR op_lt (pe_ix ix_tup (pv 9) (pv 10) (fun _ _ => rfl)) (pe_ix ix_tup (pv 5) (pv 10) (fun _ _ => rfl)) (nomark _))) (fun _ _ _ _ _ => pv 10)) pe_int (fun _ _ => rfl)))
      (pss_one (ps_expr (pe_meth (pv 1) ST.cl mMGive GMGive hr6 bMGive .nil pass0 (pa_cons (pv 11) (pa_cons (pe_ix ix_list (pe_lc (own := [("_law_place", 10)]) (g := gName 10) (tt := (tTest (tOp _ (tOp (rIxT K) _ _) (tOp (rIxT K) _ _)))) rfl scTurn.nd (pi_range1 (by rfl) m_range (pa_cons (pe_callB call_len_seq (by rfl) m_len PySem.boot_len (pa_cons (pv 5) pa_nil)) pa_nil)) (blkOk_by (N := nTurn) (sc := defScope sTurn) (by decide +kernel)) (fun _ _ _ _ _ => pg_name (i := 10) scTurn.nd rfl (Or.inl rfl)) (fun _ _ _ _ _ => pts_one (pt_cmpR op_gt (pe_ix ix_tup (pv 9) (pv 10) (fun _ _ => rfl)) (pe_ix ix_tup (pv 5) (pv 10) (fun _ _ => rfl)) (nomark _))) (fun _ _ _ _ _ => pv 10)) pe_int (fun _ _ => rfl)) pa_nil))))))) pss_nil))))))), ?_⟩
    obtain ⟨dx, hx⟩ := W0.W.S.ins
    have ea : H a = some (.tup (ns.map V.int)) := W0.W.S.stood.2 (a, ns) (List.mem_append_right _ List.mem_cons_self)
    have tb : ∀ {c : Addr} {xs : List V}, H c = some (.tup xs) → c ≠ b := fun {c xs} e z => by
      obtain ⟨_, _, _, e', _⟩ := W0.W.B
      rw [← z, e] at e'; cases e'
    have l5 := sm.l5
    have s16 := sm.s16
    have s01 := sm.s1
    have l1 : 1 ≤ ns.length := by
      cases ns with
      | nil => simp at s01
      | cons y t => show 1 ≤ t.length + 1; omega
    refine ⟨_, rfl, x, dx, _, rfl, hx, noR _ _ _, x, ls, lm, la, rs, calls, (a, ns), es.map gK, rfl, W0.W.S, _, rfl, b, 6, n, rfl, W0.W.B, by omega, by decide, by decide, fun wy G1 w0 w1 B1 k1 => ?_⟩
    have W1 := W0.draw B1 k1
    have fr1 : ∀ c o, c ≠ b → H c = some o → G1 c = some o := fun c o hc e => by rw [k1 c hc]; exact e
    refine ⟨by show 2 ≤ sizeLine; decide, fun tp ntp => ?_⟩
    have s2 := same_upd (o := HO.tup [.ref a, .int wy]) ntp
    have etp : upd G1 tp (.tup [.ref a, .int wy]) tp = some (.tup [.ref a, .int wy]) := upd_same
    refine ⟨tp, _, rfl, SqT.of etp, rfl, .ref a, [.int wy], rfl, .int wy, [], rfl, rfl, ?_⟩
    have W2 := W1.same s2
    have fr2 : ∀ c o, c ≠ b → H c = some o → upd G1 tp (.tup [.ref a, .int wy]) c = some o := fun c o hc e => s2 _ _ (fr1 c o hc e)
    clear etp B1 k1 W1 fr1
    generalize upd G1 tp (HO.tup [.ref a, .int wy]) = G2 at s2 W2 fr2 ⊢
    clear s2 ntp
    apply put_off1 (A := fun G => Wl C b x ls lm la g lo H0 G (n + 1) (rs ++ [(a, ns)]) calls es L ∧ ∀ c o, c ≠ b → H c = some o → G c = some o)
    · intro fin
      refine ⟨_, rfl, wy, 2, rfl, rfl, _, rfl, ?_⟩
      refine ite2 (fun _ => iteT (fin G2 ⟨W2, fr2⟩)) (fun _ => ?_)
      refine ⟨_, rfl, fun e0 ne0 => ?_⟩
      have s3 := same_upd (o := HO.dK []) ne0
      have W3 := W2.same s3
      have fr3 : ∀ c o, c ≠ b → H c = some o → upd G2 e0 (.dK []) c = some o := fun c o hc e => s3 _ _ (fr2 c o hc e)
      have ee : upd G2 e0 (.dK []) e0 = some (.dK []) := upd_same
      generalize upd G2 e0 (HO.dK []) = G3 at s3 W3 fr3 ee ⊢
      refine ⟨g, e0, es.map gK, rfl, rfl, W3.W.D, ee, _, rfl, ?_⟩
      refine ite2 (fun _ => fin G3 ⟨W3, fr3⟩) (fun _ => ?_)
      clear fin W2 fr2 s3
      clear ee ne0
      apply put_off1 (A := fun G => Wl C b x ls lm la g lo H0 G (n + 1) (rs ++ [(a, ns)]) calls es L ∧ ∀ c o, c ≠ b → H c = some o → G c = some o)
      · intro fin
        refine ⟨_, rfl, rfl, _, rfl, ite2 (fun _ => ?_) (fun _ => iteF (fin G3 ⟨W3, fr3⟩))⟩
        obtain ⟨dx3, hx3⟩ := W3.W.S.ins
        refine ⟨_, rfl, x, dx3, _, rfl, hx3, noCa _ _ _, x, ls, lm, la, rs ++ [(a, ns)], calls, es.map gK, rfl, W3.W.S, (calls.length : Int), 0, rfl, rfl, _, rfl, ?_⟩
        refine ite2 (fun hc => ?_) (fun _ => fin G3 ⟨W3, fr3⟩)
        have hc' : 0 < calls.length := by have := of_decide_eq_true hc; omega
        obtain ⟨cs0, c0, ec⟩ : ∃ cs0 c0, calls = cs0 ++ [c0] := ⟨calls.dropLast, calls.getLast (List.ne_nil_of_length_pos hc'), (List.dropLast_concat_getLast _).symm⟩
        obtain ⟨rs0, r0, er⟩ : ∃ rs0 r0, rs = rs0 ++ [r0] := ⟨rs.dropLast, rs.getLast (List.ne_nil_of_length_pos (by omega)), (List.dropLast_concat_getLast _).symm⟩
        subst ec er
        rw [List.length_append, List.length_append] at lcs
        have lcs' : cs0.length + 1 = rs0.length + 1 := lcs
        refine ⟨_, rfl, x, dx3, _, rfl, hx3, noBa _ _ _, x, ls, lm, la, rs0 ++ [r0], cs0, (a, ns), c0, es.map gK, rfl, W3.W.S, fun G4 k4 S4 => ?_⟩
        have W4 := W3.give (fun c o h1 h2 e => by rw [k4 c h1 h2]; exact e) S4
        refine ⟨_, rfl, .inr (.inr (.inl ⟨rfl, .inl ⟨_, W4.dl⟩⟩)), lo, L.map lK, rfl, rfl, W4.dl, ?_⟩
        refine want _ rs0 cs0 r0.1 r0.2 es [] ((W4.lost (L' := []) .nil (Nat.zero_le _)).le (by omega)) (srs r0 (List.mem_append_right _ List.mem_cons_self)) (fun r hr' => srs r (List.mem_append_left _ hr')) (by rw [List.length_append]; omega) (by omega) (by omega) (fun z hz => nomatch hz) fun c o h1 h2 h3 h4 h5 h6 e => ?_
        rw [upd_ne h6, k4 c h2 h3]
        exact fr3 _ _ h1 e
      clear W3 fr3
      rintro G ⟨W3, fr3⟩
      have ea3 := fr3 _ _ (tb ea) ea
      refine ⟨_, rfl, a, ns, rfl, ea3, sm.nn, by omega, fun p ts G4 s4 np ep tl nx _ => ?_⟩
      have W4 := W3.same s4
      obtain ⟨ks, hks, kall⟩ := pairsOf nx
      have lks : ks.length ≤ 25 := by
        have h1 := congrArg List.length hks
        rw [List.length_map] at h1
        have h2 := Nat.mul_le_mul l5 l5
        omega
      refine ⟨p, ks, rfl, ?_, fun e he => SqT.of (kall e he).1, by omega, fun sa L0 nsa sub _ => ?_⟩
      · have h1 : (ks.map fun p => V.ref p.1) = ts.map V.ref := by rw [← hks, List.map_map]; rfl
        rw [h1]; exact SqL.of ep
      generalize hso : SetTO _ _ sa L0 = so
      have s5 := same_upd (o := so) nsa
      have esa : upd G4 sa (so) sa = some (so) := upd_same
      have W5 := W4.same s5
      have l0all : ∀ e ∈ L0, upd G4 sa (so) e.1 = some (.tup (e.2.map V.int)) ∧ ∃ i j, MayG ns i j ∧ e.2 = MG.deed ns i j := fun e he => ⟨s5 _ _ (kall e (sub e he)).1, (kall e (sub e he)).2⟩
      have s45 := s4.trans s5
      generalize upd G4 sa (so) = G5 at s5 esa W5 l0all s45 ⊢
      refine ⟨sa, L0, ns.length, 17, rfl, by rw [hso]; exact esa, fun e he => SqT.of (l0all e he).1, l1, fun e he => ?_, fun L1 q pm nd1 few _ nq => ?_⟩
      · obtain ⟨_, i, j, m, e2⟩ := l0all e he
        rw [e2]
        have sd := sm.deed m
        refine ⟨deed_len _ _ _, fun x hx' => ⟨sd.nn x hx', ?_⟩⟩
        have h1 := mem_le_sumG sd.nn x hx'
        have h2 := sd.s16
        omega
      have s6 := same_upd (o := HO.lst (L1.map fun q => V.ref q.1)) nq
      have eq6 : upd G5 q (.lst (L1.map fun q => V.ref q.1)) q = some (.lst (L1.map fun q => V.ref q.1)) := upd_same
      have W6 := W5.same s6
      have l1all : ∀ e ∈ L1, upd G5 q (.lst (L1.map fun q => V.ref q.1)) e.1 = some (.tup (e.2.map V.int)) ∧ ∃ i j, MayG ns i j ∧ e.2 = MG.deed ns i j := fun e he => ⟨s6 _ _ (l0all e (pm.mem_iff.mp he)).1, (l0all e (pm.mem_iff.mp he)).2⟩
      have s46 := s45.trans s6
      have bq : b ≠ q := by
        obtain ⟨_, _, _, e, _⟩ := W5.W.B
        exact ne_of_none e nq
      generalize upd G5 q (HO.lst (L1.map fun q => V.ref q.1)) = G6 at s6 eq6 W6 l1all s46 ⊢
      refine ⟨_, rfl, by show 0 ≤ sizeLine; decide, fun e0 ne0 => ?_⟩
      have s7 := same_upd (o := HO.lst []) ne0
      have ee : upd G6 e0 (.lst []) e0 = some (.lst []) := upd_same
      have W7 := W6.same s7
      have s47 := s46.trans s7
      have l2all : ∀ e ∈ L1, upd G6 e0 (.lst []) e.1 = some (.tup (e.2.map V.int)) ∧ ∃ i j, MayG ns i j ∧ e.2 = MG.deed ns i j := fun e he => ⟨s7 _ _ (l1all e he).1, (l1all e he).2⟩
      have eq7 := s7 _ _ eq6
      generalize upd G6 e0 (HO.lst []) = G7 at s7 ee W7 s47 l2all eq7 ⊢
      refine ⟨_, _, .lst (SqL.of eq7) (dpPairs fun e he => (l2all e he).1), .lst (SqL.of ee) .nil, shapedL_rows (L1.map (·.2)), rfl, _, rfl, ?_⟩
      have fr7 : ∀ c o, c ≠ b → H c = some o → G7 c = some o := fun c o hc e => s47 _ _ (fr3 c o hc e)
      cases hL : L1 with
      | nil =>
        refine iteF ?_
        exact want G7 rs calls a ns es L (W7.le (by omega)) sm srs (by omega) lcs (by omega) lost fun c o h1 _ _ _ _ _ e => fr7 c o h1 e
      | cons p0 L2 =>
        have lpos : 1 ≤ L1.length := by rw [hL, List.length_cons]; omega
        refine iteT ?_
        refine ⟨_, rfl, _, rfl, b, q, _, _, rfl, W7.W.B, by omega, eq7, bq, by rw [List.length_map]; exact lpos, by rw [List.length_map]; omega, fun v G8 hv B8 k8 => ?_⟩
        obtain ⟨e, he, rfl⟩ := List.mem_map.mp hv
        obtain ⟨et7, i, j, may, e2⟩ := l2all e he
        rw [e2] at et7
        have W8 := W7.draw B8 k8
        have eb7 : e.1 ≠ b := fun z => by
          obtain ⟨_, _, _, e', _⟩ := W7.W.B
          rw [z, e'] at et7; cases et7
        have et8 : G8 e.1 = some (.tup ((MG.deed ns i j).map V.int)) := by rw [k8 _ eb7]; exact et7
        have fr8 : ∀ c o, c ≠ b → H c = some o → G8 c = some o := fun c o hc h => by rw [k8 c hc]; exact fr7 c o hc h
        have ea8 := fr8 _ _ (tb ea) ea
        generalize e.1 = t at et8
        clear s4 s5 s6 s7 s45 s46 s47 W3 W4 W5 W6 W7 l0all l1all l2all
        have hlen : (deed ns i j).length = ns.length := deed_len _ _ _
        -- who gives
        refine ⟨_, rfl, a, _, rfl, .inr (SqT.of ea8), _, rfl, by omega, by rw [List.length_map]; omega, fun D nD => ?_⟩
        refine lc_range (lo := 0) (n := ((ns.map V.int).length : Int).toNat) (fun m G' => Same G8 G' ∧ G' D = some (.lst ((((List.range m).filter fun p => decide ((deed ns i j).getD p 0 < ns.getD p 0)).map fun (p : Nat) => (p : Int)).map V.int))) ⟨same_upd nD, upd_same⟩ ?_ ?_
        · rintro m G' hm ⟨sg, hD⟩
          have hm' : m < ns.length := by rw [List.length_map, Int.toNat_natCast] at hm; exact hm
          have eD := sg _ _ et8
          have eA := sg _ _ ea8
          have gd : ((deed ns i j).map V.int)[m]? = some (.int ((deed ns i j).getD m 0)) := MG.getD_at (by rw [hlen]; exact hm')
          have gn : (ns.map V.int)[m]? = some (.int (ns.getD m 0)) := MG.getD_at hm'
          have gd' : ((deed ns i j).map V.int)[(0 + m : Nat)]? = some (.int ((deed ns i j).getD m 0)) := by rw [Nat.zero_add]; exact gd
          rw [Int.zero_add]
          refine ⟨rfl, _, rfl, _, rfl, t, _, (m : Int), .int ((deed ns i j).getD m 0), rfl, rfl, SqT.of eD, atI_nat gd, _, rfl, _, rfl, a, _, (m : Int), .int (ns.getD m 0), rfl, rfl, SqT.of eA, atI_nat gn, _, _, rfl, rfl, _, rfl, ?_⟩
          have er : (List.range (m + 1)).filter (fun p => decide ((deed ns i j).getD p 0 < ns.getD p 0)) = (List.range m).filter (fun p => decide ((deed ns i j).getD p 0 < ns.getD p 0)) ++ if decide ((deed ns i j).getD m 0 < ns.getD m 0) = true then [m] else [] := by
            rw [List.range_succ, List.filter_append]
            congr 1
            cases hd : decide ((deed ns i j).getD m 0 < ns.getD m 0) with
            | true => rw [List.filter_cons_of_pos (by exact hd), List.filter_nil, if_pos rfl]
            | false => rw [List.filter_cons_of_neg (by rw [hd]; exact Bool.false_ne_true), List.filter_nil, if_neg Bool.false_ne_true]
          have lt : ((List.range m).filter fun p => decide ((deed ns i j).getD p 0 < ns.getD p 0)).length ≤ 5 := by
            have h1 := List.length_filter_le (fun p => decide ((deed ns i j).getD p 0 < ns.getD p 0)) (List.range m)
            rw [List.length_range] at h1
            omega
          cases hd : decide ((deed ns i j).getD m 0 < ns.getD m 0) with
          | true =>
            rw [hd, if_pos rfl] at er
            refine iteT ⟨_, rfl, _, hD, by rw [List.length_map, List.length_map, sizeLine_eq]; omega, fun c o hc => ?_, ?_⟩
            · rw [upd_ne (ne_of_none hc nD)]
              exact sg _ _ hc
            · rw [upd_same, er, List.map_append, List.map_append]; rfl
          | false =>
            rw [hd, if_neg Bool.false_ne_true, List.append_nil] at er
            rw [er]
            exact iteF ⟨sg, hD⟩
        rintro G9 ⟨s9, hD⟩
        rw [List.length_map, Int.toNat_natCast, gives_one may] at hD
        refine ⟨D, _, 0, .int (i : Int), rfl, rfl, SqL.of hD, atI_nat (j := 0) rfl, ?_⟩
        have W9 := W8.same s9
        have et9 := s9 _ _ et8
        have ea9 := s9 _ _ ea8
        obtain ⟨dx9, hx9⟩ := W9.W.S.ins
        refine ⟨_, rfl, x, dx9, _, rfl, hx9, noGi _ _ _, _, rfl, _, rfl, a, _, rfl, .inr (SqT.of ea9), _, rfl, by omega, by rw [List.length_map]; omega, fun D2 nD2 => ?_⟩
        refine lc_range (lo := 0) (n := ((ns.map V.int).length : Int).toNat) (fun m G' => Same G9 G' ∧ G' D2 = some (.lst ((((List.range m).filter fun p => decide (ns.getD p 0 < (deed ns i j).getD p 0)).map fun (p : Nat) => (p : Int)).map V.int))) ⟨same_upd nD2, upd_same⟩ ?_ ?_
        · rintro m G' hm ⟨sg, hD⟩
          have hm' : m < ns.length := by rw [List.length_map, Int.toNat_natCast] at hm; exact hm
          have eD := sg _ _ et9
          have eA := sg _ _ ea9
          have gd : ((deed ns i j).map V.int)[m]? = some (.int ((deed ns i j).getD m 0)) := MG.getD_at (by rw [hlen]; exact hm')
          have gn : (ns.map V.int)[m]? = some (.int (ns.getD m 0)) := MG.getD_at hm'
          rw [Int.zero_add]
          refine ⟨rfl, _, rfl, _, rfl, t, _, (m : Int), .int ((deed ns i j).getD m 0), rfl, rfl, SqT.of eD, atI_nat gd, _, rfl, _, rfl, a, _, (m : Int), .int (ns.getD m 0), rfl, rfl, SqT.of eA, atI_nat gn, _, _, rfl, rfl, _, rfl, ?_⟩
          have er : (List.range (m + 1)).filter (fun p => decide (ns.getD p 0 < (deed ns i j).getD p 0)) = (List.range m).filter (fun p => decide (ns.getD p 0 < (deed ns i j).getD p 0)) ++ if decide (ns.getD m 0 < (deed ns i j).getD m 0) = true then [m] else [] := by
            rw [List.range_succ, List.filter_append]
            congr 1
            cases hd : decide (ns.getD m 0 < (deed ns i j).getD m 0) with
            | true => rw [List.filter_cons_of_pos (by exact hd), List.filter_nil, if_pos rfl]
            | false => rw [List.filter_cons_of_neg (by rw [hd]; exact Bool.false_ne_true), List.filter_nil, if_neg Bool.false_ne_true]
          have lt : ((List.range m).filter fun p => decide (ns.getD p 0 < (deed ns i j).getD p 0)).length ≤ 5 := by
            have h1 := List.length_filter_le (fun p => decide (ns.getD p 0 < (deed ns i j).getD p 0)) (List.range m)
            rw [List.length_range] at h1
            omega
          cases hd : decide (ns.getD m 0 < (deed ns i j).getD m 0) with
          | true =>
            rw [hd, if_pos rfl] at er
            refine iteT ⟨_, rfl, _, hD, by rw [List.length_map, List.length_map, sizeLine_eq]; omega, fun c o hc => ?_, ?_⟩
            · rw [upd_ne (ne_of_none hc nD2)]
              exact sg _ _ hc
            · rw [upd_same, er, List.map_append, List.map_append]; rfl
          | false =>
            rw [hd, if_neg Bool.false_ne_true, List.append_nil] at er
            rw [er]
            exact iteF ⟨sg, hD⟩
        rintro G10 ⟨s10, hD2⟩
        rw [List.length_map, Int.toNat_natCast, takes_one may] at hD2
        have W10 := W9.same s10
        refine ⟨D2, _, 0, .int (j : Int), rfl, rfl, SqL.of hD2, atI_nat (j := 0) rfl, ?_⟩
        refine ⟨x, ls, lm, la, rs, calls, a, ns, es.map gK, i, j, rfl, W10.W.S, by omega, may, by omega, by omega, fun t' c' G11 k11 _ _ S11 => ?_⟩
        have W11 := W10.give k11 S11
        refine want G11 (rs ++ [(a, ns)]) (calls ++ [(c', [(i : Int), (j : Int)])]) t' (deed ns i j) es L (W11.le (by omega)) (sm.deed may) (fun r hr' => ?_) (by rw [List.length_append]; exact Nat.le_refl _) (by rw [List.length_append, List.length_append, lcs]; rfl) (by omega) (lost.deed sm may W10.W.ge) fun c o h1 h2 h3 _ _ _ h => ?_
        · rcases List.mem_append.mp hr' with h | h
          · exact srs r h
          · rw [List.mem_singleton.mp h]; exact sm
        · exact k11 _ _ h2 h3 (s10 _ _ (s9 _ _ (fr8 c o h1 h)))
    -- a goal
    rintro G ⟨W3, fr3⟩
    have ea3 := fr3 _ _ (tb ea) ea
    have et3 := fr3 _ _ bt.symm et
    have cm3 : Cm G ns ys := cm.keep fun q xs e => fr3 _ _ (tb e) e
    refine ⟨_, rfl, by show 6 ≤ sizeLine; decide, fun l nl => ?_⟩
    have s4 := same_upd (o := HO.lst (nm6.map V.str)) nl
    have bl : b ≠ l := by
      obtain ⟨_, _, _, e, _⟩ := W3.W.B
      exact ne_of_none e nl
    have W4 := W3.same s4
    refine ⟨b, l, _, nm6.map V.str, rfl, W4.W.B, by omega, upd_same, bl, by decide, by decide, fun v G5 hv B5 k5 => ?_⟩
    obtain ⟨z, hz, rfl⟩ := List.mem_map.mp hv
    have W5 := W4.draw B5 k5
    have fr5 : ∀ c o, c ≠ b → G c = some o → G5 c = some o := fun c o hc e => by rw [k5 c hc]; exact s4 _ _ e
    have ea5 := fr5 _ _ (tb ea) ea3
    refine ⟨_, rfl, _, rfl, _, rfl, b, a, th, ns, ys, _, rfl, W5.W.B, by omega, ea5, sm, fr5 _ _ bt.symm et3, bt, y1, y2, cm3.keep (fun q xs e => fr5 _ _ (fun w => by
      obtain ⟨_, _, _, e', _⟩ := W3.W.B
      rw [w, e'] at e; cases e) e), fun q os G6 B6 k6 x6 eq6 no6 lo6 so1 so2 => ?_⟩
    have W6 := W5.drawN B6 k6
    refine ⟨_, rfl, _, rfl, g, _, rfl, .inl ⟨es.map gK, .inr z, W6.W.D, rfl, by rw [List.length_map, sizeLine_eq]; omega, rfl⟩, ?_⟩
    rw [gK_putN es z q os]
    have hin : (z, q, os) ∈ putN es z (q, os) := putN_mem.mpr (.inl rfl)
    have nmz := (nm6_ok z hz).1
    have pl := putN_len es z (q, os)
    have G' : GoOk G6 (putN es z (q, os)) := ⟨fun e he => by
        rcases putN_mem.mp he with rfl | h
        · exact nmz
        · exact W6.W.ge.nm e h.1, fun e he => by
        rcases putN_mem.mp he with rfl | h
        · show Row G6 q os; exact row16' no6 (by omega) (by omega) (by omega) eq6
        · exact W6.W.ge.rw e h.1, putN_nd W6.W.ge.nd, by omega⟩
    have W7 := W6.W.put G'
    obtain ⟨dx7, hx7⟩ := W7.S.ins
    have l7 : upd G6 g (.dK ((putN es z (q, os)).map gK)) lo = some (.dK (L.map lK)) := by rw [upd_ne W6.lg]; exact W6.dl
    refine ⟨_, rfl, x, dx7, _, rfl, hx7, noAi _ _ _, _, rfl, _, rfl, _, rfl, g, .ref q, rfl, by rw [← gK_get G'.nd hin]; exact DGet.k (k := .inr z) W7.D, x, ls, lm, la, rs, calls, a, q, ns, os, es.map gK, z, rfl, W7.S, nmz, (W7.gd.rw _ hin).1, no6, by omega, by omega, by omega, by omega, lo6, by rw [List.length_map]; omega, fun G8 k8 S8 => ?_⟩
    rw [gK_putN es z q os] at S8
    have W8 := W7.aim k8 S8 W7.gd
    have l8 := k8 _ _ W6.la' l7
    have nm8 : ∀ e ∈ putN es z (q, os), e.1 ∈ nm6 := fun e he => by
      rcases putN_mem.mp he with rfl | h
      · exact hz
      · exact W6.nm e h.1
    have fin : ∀ G9, G9 = upd G8 lo (.dK ((L.filter fun y => decide (y ≠ z)).map lK)) → Q .non G9 := fun G9 e9 => by
      subst e9
      have ll' : (L.filter fun y => decide (y ≠ z)).length ≤ (putN es z (q, os)).length := by
        have h1 := List.length_filter_le (fun y => decide (y ≠ z)) L
        have h2 := congrArg List.length (putN_keys es z (q, os))
        have h3 := W0.ll
        rw [List.length_map] at h2
        split at h2
        · rw [List.length_map] at h2; omega
        · rw [List.length_append, List.length_map] at h2; omega
      refine want _ rs calls a ns (putN es z (q, os)) (L.filter fun y => decide (y ≠ z)) ⟨(W8.loU l8 W6.la' W6.lg W6.fl _ ⟨_, rfl⟩).le (by omega), upd_same, W6.la', W6.lg, W6.fl, W6.nd.filter _, nm8, ll'⟩ sm srs (by omega) lcs pl (lost.put W6.W.ge.nd) fun c o h1 h2 h3 h4 h5 h6 e => ?_
      rw [upd_ne h6]
      exact k8 _ _ h4 (by rw [upd_ne h5]; exact k6 _ _ h1 (fr5 _ _ h1 (fr3 _ _ h1 e)))
    refine ⟨_, rfl, lo, rfl, .inl ⟨_, .inl l8⟩, _, rfl, L.map lK, .inr z, l8, rfl, fun v _ => ?_, fun hn => ?_⟩
    · rw [lK_drop]
      exact fin _ rfl
    · refine fin G8 ?_
      rw [lK_get] at hn
      have hz' : z ∉ L := fun h => by rw [if_pos h] at hn; cases hn
      have e : (L.filter fun y => decide (y ≠ z)) = L := List.filter_eq_self.mpr fun y hy => decide_eq_true fun w => hz' (w ▸ hy)
      rw [e]
      funext c
      by_cases hc : c = lo
      · rw [hc, upd_same, l8]
      · rw [upd_ne hc]
end
end K56

namespace K56
open PySem PySem.Spec PyProof.Rows L2 MG LamX
abbrev sRight : Stmt := topS 64
abbrev nRight : List Str := ["_law_box_here", "_law_row_here", "_law_store", "_law_goals", "_law_lost", "_law_known", "_law_turn_here", "_law_here", "_law_name", "_law_due", "_law_told", "_law_state_here"]
theorem scRight : FnScope ["_law_box_here", "_law_row_here", "_law_store", "_law_goals", "_law_lost", "_law_known", "_law_turn_here", "_law_here", "_law_name", "_law_due", "_law_told", "_law_state_here"] ["_law_box_here"] (defScope sRight) := ⟨rfl, rfl, rfl, by decide +kernel, rfl, by decide +kernel, by decide +kernel⟩

/-- a row, and the dict of all that comes of it -/
def kK (e : List Int × Addr) : List Key × V := (kR e.1, .ref e.2)
theorem kK_some {r : List Int} : ∀ {KN : List (List Int × Addr)}, r ∈ KN.map Prod.fst → ∃ d, (r, d) ∈ KN ∧ valV (KN.map kK) (kR r) = some (.ref d)
  | e :: KN, h => by
    rw [List.map_cons]
    by_cases c : e.1 = r
    · exact ⟨e.2, by rw [← c]; exact List.mem_cons_self, valV_pos (by rw [← c]; rfl)⟩
    · have h' : r ∈ KN.map Prod.fst := by
        rcases List.mem_cons.mp h with h | h
        · exact absurd h.symm c
        · exact h
      obtain ⟨d, h1, h2⟩ := kK_some h'
      exact ⟨d, List.mem_cons_of_mem _ h1, by rw [valV_neg (fun z => c (kR_inj z)), h2]⟩
theorem kK_none {r : List Int} : ∀ {KN : List (List Int × Addr)}, r ∉ KN.map Prod.fst → valV (KN.map kK) (kR r) = none
  | [], _ => rfl
  | e :: KN, h => by
    rw [List.map_cons, List.mem_cons, not_or] at h
    rw [List.map_cons, valV_neg (fun z => h.1 (kR_inj z).symm)]
    exact kK_none h.2
/-- what comes of the rows that are known -/
structure Kn (H0 H : Hp) (kn : Addr) (KN : List (List Int × Addr)) : Prop where
  kd : H kn = some (.dT (KN.map kK))
  f : H0 kn = none
  all : ∀ e ∈ KN, e.2 ≠ kn ∧ ∃ En : List (List Int × Int), H e.2 = some (.dT (En.map dE)) ∧ (∀ o, o ∈ En.map Prod.fst ↔ Re e.1 o) ∧ En.length ≤ 10000000
theorem Kn.keep {H0 H H' : Hp} {kn : Addr} {KN : List (List Int × Addr)} (h : Kn H0 H kn KN) (k : ∀ c q, H c = some (.dT q) → H' c = some (.dT q)) : Kn H0 H' kn KN :=
  ⟨k _ _ h.kd, h.f, fun e he => by
    obtain ⟨h1, En, h2, h3⟩ := h.all e he
    exact ⟨h1, En, k _ _ h2, h3⟩⟩
section
variable {C b x ls lm la g lo kn : Addr} {H0 H H' : Hp} {n n' : Nat} {rows calls : List (Addr × List Int)} {es : List (Str × Addr × List Int)} {L : List Str}
/-- a dict of tuples is none of these -/
theorem Wl.dts (w : Wl C b x ls lm la g lo H0 H n rows calls es L) {c : Addr} {q : List (List Key × V)} (e : H c = some (.dT q)) : c ≠ b ∧ c ≠ ls ∧ c ≠ lm ∧ c ≠ la ∧ c ≠ g ∧ c ≠ lo := by
  refine ⟨fun z => ?_, fun z => ?_, fun z => ?_, fun z => ?_, fun z => ?_, fun z => ?_⟩
  · obtain ⟨_, _, _, e', _⟩ := w.W.B
    rw [← z, e] at e'; cases e'
  · have e' := w.W.S.stood.1
    rw [← z, e] at e'; cases e'
  · have e' := w.W.S.made.1
    rw [← z, e] at e'; cases e'
  · have e' := w.W.S.aims
    rw [← z, e] at e'; cases e'
  · have e' := w.W.D
    rw [← z, e] at e'; cases e'
  · have e' := w.dl
    rw [← z, e] at e'; cases e'
theorem Wl.dt (w : Wl C b x ls lm la g lo H0 H n rows calls es L) {q q' : List (List Key × V)} (e : H kn = some (.dT q)) (f : H0 kn = none) : Wl C b x ls lm la g lo H0 (upd H kn (.dT q')) n rows calls es L := by
  have dif : ∀ {c : Addr} {o' : HO}, H c = some o' → (∀ q, o' ≠ .dT q) → upd H kn (.dT q') c = some o' := fun {c o'} h qq => by
    rw [upd_ne (fun z => by rw [z, e] at h; exact qq _ (Option.some.inj h).symm)]; exact h
  have tu : ∀ c xs, H c = some (.tup xs) → upd H kn (.dT q') c = some (.tup xs) := fun c xs h => dif h fun _ z => nomatch z
  obtain ⟨⟨dx, i⟩, st, ma, ai, ne⟩ := w.W.S
  obtain ⟨ob, m, c, e2, r⟩ := w.W.B
  exact ⟨⟨⟨ob, m, c, dif e2 (fun _ z => nomatch z), r⟩, ⟨⟨dx, dif i (fun _ z => nomatch z)⟩, ⟨dif st.1 (fun _ z => nomatch z), fun e he => tu _ _ (st.2 e he)⟩, ⟨dif ma.1 (fun _ z => nomatch z), fun e he => tu _ _ (ma.2 e he)⟩, dif ai (fun _ z => nomatch z), ne⟩, dif w.W.D (fun _ z => nomatch z), w.W.ge.keep tu, w.W.gd.keep tu, w.W.lsb, w.W.lmb, w.W.lag, fun c o' nb h => by
    rw [upd_ne (ne_of_none h f)]; exact w.W.X c o' nb h, w.W.fl, w.W.fm, w.W.fa, w.W.fg⟩, dif w.dl (fun _ z => nomatch z), w.la', w.lg, w.fl, w.nd, w.nm, w.ll⟩
end
theorem LostOk.putL {ns : List Int} {es : List (Str × Addr × List Int)} {L : List Str} {z : Str} (h : LostOk ns es L) (hz : z ∈ es.map Prod.fst) (hl : stW ns (byN es z) = "lost") : LostOk ns es (MG.putL L z) := fun y hy => by
  rcases putL_mem.mp hy with hy | rfl
  · exact h y hy
  · exact ⟨hz, stW_lost.mp hl⟩
theorem LostOk.few {ns : List Int} {es : List (Str × Addr × List Int)} {L : List Str} (h : LostOk ns es L) (nd : L.Nodup) : L.length ≤ es.length := by
  have := List.Nodup.length_le_of_subset nd fun z hz => (h z hz).1
  rw [List.length_map] at this
  exact this
/-- the goals, each with how it stands -/
def dueD (ns : List Int) (es : List (Str × Addr × List Int)) (zs : List Str) : PyData := .tuple ((zs.map fun z => (z, stW ns (byN es z))).map fun c => .tuple [.str c.1, .str c.2])
theorem stW_short (r o : List Int) : (reprText (stW r o)).length ≤ 20 := by
  unfold stW
  split
  · decide +kernel
  · split <;> decide +kernel
theorem due_sh {ns : List Int} {es : List (Str × Addr × List Int)} {zs : List Str} (h : ∀ z ∈ zs, z ∈ nm6) (hl : zs.length ≤ 64) : ReprOk (dueD ns es zs) := by
  refine .of (Sh.tup (n := 1) (c := 2 * 22 + 3) (m := 64) (fun d hd => ?_) (by rw [List.length_map, List.length_map]; exact hl)) (by decide) (by decide)
  obtain ⟨c, hc, rfl⟩ := List.mem_map.mp hd
  obtain ⟨z, hz, rfl⟩ := List.mem_map.mp hc
  refine Sh.tup (n := 0) (c := 20) (m := 2) (fun d hd => ?_) (Nat.le_refl _)
  simp only [List.mem_cons, List.not_mem_nil, or_false] at hd
  rcases hd with rfl | rfl
  · exact Sh.str _ (nm6_ok z (h z hz)).2
  · exact Sh.str _ (stW_short _ _)
theorem ddPrSt {H : Hp} : ∀ {ts : List Addr} {cs : List (Str × Str)}, PrSt H ts cs → DdAll H (ts.map V.ref) (cs.map fun c => .tuple [.str c.1, .str c.2])
  | [], [], _ => .nil
  | [], _ :: _, h => by have := h.1; simp at this
  | _ :: _, [], h => by have := h.1; simp at this
  | t :: ts, c :: cs, h => .cons (.tup (h.2 0 t c rfl rfl) (.cons (.str _) (.cons (.str _) .nil))) (ddPrSt ⟨by have := h.1; simpa using this, fun i t' c' a b => h.2 (i + 1) t' c' a b⟩)
theorem dueDd {H : Hp} {p : Addr} {ts : List Addr} {ns : List Int} {es : List (Str × Addr × List Int)} {zs : List Str} (e : H p = some (.tup (ts.map V.ref))) (h : PrSt H ts (zs.map fun z => (z, stW ns (byN es z)))) : Dd H (.ref p) (dueD ns es zs) := .tup e (ddPrSt h)
section
variable {P : Program} {w : World} {K : PySem.W.Frag} {mg : Str → Option Value} {base : Heap}
def spRight : Sp := fun vs H Q _ => ∃ b n, vs = [.ref b] ∧ Box H b n ∧ n ≤ 1000 ∧ ∀ H', SX b H H' → Q (.bl true) H'
theorem ok_right {f fT fLn fI fW fGo fMs fTu fSta fAl C : Addr} {fd fdT fdLn fdI fdW fdGo fdMs fdTu fdSta fdAl : FuncData} {k : Nat} (sys : SysD base) (F : Fun K "_law_right" "_law_right" sRight f fd)
    (FT : Fun K "_law_take" "_law_take" sTake fT fdT) (bT : Binds K fdT ["_law_box_here", "_law_many"] []) (gT : mg "_law_take" = some (.ref fT))
    (FLn : Fun K "_law_row" "_law_row" sLine fLn fdLn) (bLn : Binds K fdLn ["_law_box_here", "_law_least", "_law_greatest", "_law_most"] []) (gLn : mg "_law_row" = some (.ref fLn)) (GLn : FnOk P w K mg base CX0 (k + 3) fLn fdLn ["_law_box_here", "_law_least", "_law_greatest", "_law_most"] spLine)
    (ST : StT K C) (MK : Mk K C fI) (gStore : mg "Store" = some (.ref C)) (FInit : Fun K "__init__" "Store.__init__" sInit fI fdI) (bInit : Binds K fdI ["self", "row"] []) (GInit : FnOk P w K mg base CX0 (k + 3) fI fdI ["self", "row"] (spInit C))
    (FMRow : Fun K "row" "Store.row" sMRow fW fdW) (bMRow : Binds K fdW ["self"] []) (mMRow : Meth K C "row" fW)
    (FMGoals : Fun K "goals" "Store.goals" sMGoals fGo fdGo) (bMGoals : Binds K fdGo ["self"] []) (mMGoals : Meth K C "goals" fGo) (GMGoals : FnOk P w K mg base CX0 (k + 10) fGo fdGo ["self"] (spMGoals C))
    (FMState : Fun K "state" "Store.state" sMState fMs fdMs) (bMState : Binds K fdMs ["self", "name"] []) (mMState : Meth K C "state" fMs) (GMState : FnOk P w K mg base CX0 (k + 9) fMs fdMs ["self", "name"] (spMState C))
    (FTu : Fun K "_law_turn" "_law_turn" sTurn fTu fdTu) (bTu : Binds K fdTu ["_law_box_here", "_law_store", "_law_goals", "_law_lost", "_law_there"] []) (gTu : mg "_law_turn" = some (.ref fTu)) (GTu : FnOk P w K mg base CX0 (k + 7) fTu fdTu ["_law_box_here", "_law_store", "_law_goals", "_law_lost", "_law_there"] (spTurn C))
    (FSta : Fun K "_law_state" "_law_state" sSta fSta fdSta) (bSta : Binds K fdSta ["_law_row_here", "_law_goal_here", "_law_comes_here"] []) (gSta : mg "_law_state" = some (.ref fSta))
    (FAl : Fun K "_law_all_of" "_law_all_of" sAll fAl fdAl) (bAl : Binds K fdAl ["_law_row_here"] []) (gAl : mg "_law_all_of" = some (.ref fAl)) (GAl : FnOk P w K mg base CX0 (k + 3) fAl fdAl ["_law_row_here"] spAll)
    (m_len : mg "len" = none) (m_range : mg "range" = none) (m_sum : mg "sum" = none) (m_sorted : mg "sorted" = none) (m_tuple : mg "tuple" = none) (m_repr : mg "repr" = none) :
    FnG P w K mg base (k + 12) f fd ["_law_box_here"] spRight := by
  have GT : FnOk P w K mg base CX0 (k + 1) fT fdT ["_law_box_here", "_law_many"] spTake := ok_take FT
  have GMRow : FnOk P w K mg base CX0 (k + 1) fW fdW ["self"] (spMRow C) := ok_mrow FMRow ST
  have GSta : FnOk P w K mg base CX0 (k + 1) fSta fdSta ["_law_row_here", "_law_goal_here", "_law_comes_here"] spSta := ok_sta FSta
  have noR : ∀ ls lm la : Addr, (sF ls lm la).lookup ("row" : Str) = none := fun _ _ _ => sF_no _ _ _ (by decide +kernel) (by decide +kernel) (by decide +kernel)
  have noMs : ∀ ls lm la : Addr, (sF ls lm la).lookup ("state" : Str) = none := fun _ _ _ => sF_no _ _ _ (by decide +kernel) (by decide +kernel) (by decide +kernel)
  have noGo : ∀ ls lm la : Addr, (sF ls lm la).lookup ("goals" : Str) = none := fun _ _ _ => sF_no _ _ _ (by decide +kernel) (by decide +kernel) (by decide +kernel)
  refine okG F scRight (fun vs H Q E h => ?_) (fun cdv A outer s H vs Q E gd hr h => ?_)
  · obtain ⟨b, n, rfl, _⟩ := h
    rfl
  · obtain ⟨b, n, rfl, hB, hn, want⟩ := h
    have hr11 := hr
    have hr10 := hr.mono (show k + 10 ≤ k + 11 by omega)
    have hr9 := hr.mono (show k + 9 ≤ k + 11 by omega)
    have hr7 := hr.mono (show k + 7 ≤ k + 11 by omega)
    have hr4 := hr.mono (show k + 4 ≤ k + 11 by omega)
    have hr3 := hr.mono (show k + 3 ≤ k + 11 by omega)
    have hr2 := hr.mono (show k + 2 ≤ k + 11 by omega)
    have hr1 := hr.mono (show k + 1 ≤ k + 11 by omega)
    have cr : ∀ {X : Cx}, X = (cxOf CX0 P w K mg base nRight "_law_right" (defScope sRight) f cdv A outer s H E).nox → CallR X (.builtin "repr") rRepr := by
      rintro X rfl
      exact call_repr gd (by have := hr.un; show (A.deeper _).units + 100 < cLine; omega) sys
    have R := cr rfl
    have hu : (A.deeper (envOfC "_law_right" (defScope sRight) s.heap.objs.size f cdv)).units + 1 < cLine := by have := hr.un; omega
    refine ⟨_, pss_cons (ps_set (i := 1) scRight.nd rfl (.inl rfl) (pe_call GLn hr3 (by rfl) gLn FLn.kp bLn .nil pass0 (pa_cons (pv 0) (pa_cons pe_int (pa_cons pe_int (pa_cons pe_int pa_nil))))))
      (pss_mid (ps_if (PW.pt (pw_or (pt_cmpR op_gt (pe_callB (sumT rfl) (by rfl) m_sum (by decide +kernel) (pa_cons (pv 1) pa_nil)) pe_int (nomark _)) (pw_or1 (pt_cmpR op_gt (pe_callB call_len_seq (by rfl) m_len PySem.boot_len (pa_cons (pv 1) pa_nil)) pe_int (nomark _))))) (pss_one (ps_ret pe_bl)) pss_nil)
      (pss_cons (ps_asg (pe_tup (pa_cons (pe_make MK GInit hr4 (by rfl) gStore bInit .nil pass0 (pa_cons (pv 1) pa_nil)) (pa_cons (pe_dnewK) (pa_cons (pe_dnewK) pa_nil)))) (pg_tup rfl (pgs_cons (pg_name (i := 2) scRight.nd rfl (.inr rfl)) (pgs_cons (pg_name (i := 3) scRight.nd rfl (.inr rfl)) (pgs_cons (pg_name (i := 4) scRight.nd rfl (.inl rfl)) pgs_nil)))))
      (pss_cons (ps_set (i := 5) scRight.nd rfl (.inr rfl) (pe_dispT hu (pv 1) (pe_call GAl hr3 (by rfl) gAl FAl.kp bAl .nil pass0 (pa_cons (pv 1) pa_nil))))
      (pss_cons (ps_for PassesOwn.never rfl (pi_range1 (by rfl) m_range (pa_cons (pe_op op_add pe_int (pe_call GT hr1 (by rfl) gT FT.kp bT .nil pass0 (pa_cons (pv 0) (pa_cons pe_int pa_nil)))) pa_nil)) (pg_name (i := 6) scRight.nd rfl (.inl rfl)) (pss_cons (ps_expr (pe_call GTu hr7 (by rfl) gTu FTu.kp bTu .nil pass0 (pa_cons (pv 0) (pa_cons (pv 2) (pa_cons (pv 3) (pa_cons (pv 4) (pa_cons (pe_callB (cr_sortDU rfl) (by rfl) m_sorted (by decide +kernel) (pa_cons (pe_dget hu (pv 5) (pe_meth0 (pv 2) ST.cl mMRow GMRow hr1 bMRow .nil pass0) (fun _ _ => rfl)) pa_nil)) pa_nil)))))))
      (pss_cons (ps_set (i := 7) scRight.nd rfl (.inr rfl) (pe_meth0 (pv 2) ST.cl mMRow GMRow hr1 bMRow .nil pass0))
      (pss_mid (ps_if (pt_cmp (pc_dnotin hu (pv 7) (pv 5))) (pss_one (ps_dput hu (pv 5) (pv 7) (pe_call GAl hr3 (by rfl) gAl FAl.kp bAl .nil pass0 (pa_cons (pv 7) pa_nil)) rfl)) pss_nil)
      (pss_cons (ps_setLc (i := 9) (own := [("_law_name", 8)]) (g := gName 8) (tt := tYes) (te := (tTup (tCons (tVar 8) (tCons (tCall spSta [] E0 (tCons (tVar 7) (tCons (tDGet (tVar 3) (tVar 8)) (tCons (tDGet (tVar 5) (tVar 7)) tNil)))) tNil)))) rfl scRight.nd rfl rfl (sw_true rfl rfl rfl (by decide +kernel)) (pi_list (pe_callB (call_sortedD rfl) (by rfl) m_sorted (by decide +kernel) (pa_cons (pv 3) pa_nil))) (blkOk_by (N := nRight) (sc := defScope sRight) (by decide +kernel)) (fun _ _ _ _ _ => pg_name (i := 8) scRight.nd rfl (Or.inl rfl)) (fun _ _ _ _ _ => pts_nil) (fun _ _ _ _ _ => pe_tup (pa_cons (pv 8) (pa_cons (pe_call GSta hr1 (by rfl) gSta FSta.kp bSta .nil pass0 (pa_cons (pv 7) (pa_cons (pe_dget hu (pv 3) (pv 8) (fun _ _ => rfl)) (pa_cons (pe_dget hu (pv 5) (pv 7) (fun _ _ => rfl)) pa_nil)))) pa_nil))))
      (pss_cons (ps_set (i := 10) scRight.nd rfl (.inl rfl) (pe_callTy call_tuple_of (by rfl) m_tuple (by decide +kernel) (pa_cons (pe_lc (own := [("_law_name", 8)]) (g := gName 8) (tt := tYes) rfl scRight.nd (pi_list (pe_callB (call_sortedD rfl) (by rfl) m_sorted (by decide +kernel) (pa_cons (pv 3) pa_nil))) (blkOk_by (N := nRight) (sc := defScope sRight) (by decide +kernel)) (fun _ _ _ _ _ => pg_name (i := 8) scRight.nd rfl (Or.inl rfl)) (fun _ _ _ _ _ => pts_nil) (fun _ _ _ _ _ => pe_tup (pa_cons (pv 8) (pa_cons (pe_meth (pv 2) ST.cl mMState GMState hr9 bMState .nil pass0 (pa_cons (pv 8) pa_nil)) pa_nil)))) pa_nil)))
      (pss_mid (ps_if (PW.pt (pw_or (pt_cmpR op_ne (pe_callB R (by rfl) m_repr (by decide +kernel) (pa_cons (pe_meth0 (pv 2) ST.cl mMGoals GMGoals hr10 bMGoals .nil pass0) pa_nil)) (pe_callB R (by rfl) m_repr (by decide +kernel) (pa_cons (pe_callTy call_tuple_of (by rfl) m_tuple (by decide +kernel) (pa_cons (pv 9) pa_nil)) pa_nil)) (nomark _)) (pw_or1 (pt_cmpR op_ne (pe_callB R (by rfl) m_repr (by decide +kernel) (pa_cons (pv 10) pa_nil)) (pe_callB R (by rfl) m_repr (by decide +kernel) (pa_cons (pe_callTy call_tuple_of (by rfl) m_tuple (by decide +kernel) (pa_cons (pv 9) pa_nil)) pa_nil)) (nomark _))))) (pss_one (ps_ret pe_bl)) pss_nil)
      (pss_one (ps_for PassesOwn.never rfl (pi_list (pv 9)) (pg_tup rfl (pgs_cons (pg_name (i := 8) scRight.nd rfl (.inl rfl)) (pgs_cons (pg_name (i := 11) scRight.nd rfl (.inl rfl)) pgs_nil))) (pss_mid (ps_if (PW.pt (pw_and (pt_cmp (pc_din hu (pv 8) (pv 4))) (pw_and1 (pt_cmpR op_ne (pv 11) pe_str (nomark _))))) (pss_one (ps_ret pe_bl)) pss_nil)
      (pss_one (ps_if (pt_cmpR op_eq (pv 11) pe_str (nomark _)) (pss_one (ps_dput hu (pv 4) (pv 8) pe_bl rfl)) pss_nil))))))))))))
      (pss_one (ps_ret pe_bl)))))), ?_⟩
    refine ⟨_, rfl, b, 2, 4, 9, n, rfl, hB, by omega, by decide, by decide, by decide, by decide, by decide, fun a G1 ns na l2 l6 xs c24 B1 x1 ea => ?_⟩
    -- too great
    refine ⟨fun σ G' => σ = [some (.ref b), some (.ref a), none, none, none, none, none, none, none, none, none, none] ∧ G1 = G' ∧ Sm ns, ?_, ?_⟩
    · refine ⟨_, rfl, a, ns, rfl, SqT.of ea, _, 16, rfl, rfl, _, rfl, ?_⟩
      refine ite2 (fun _ => want _ x1) (fun h1 => ?_)
      refine ⟨_, rfl, a, _, rfl, .inr (SqT.of ea), _, 5, rfl, rfl, _, rfl, ?_⟩
      refine ite2 (fun _ => want _ x1) (fun h2 => ⟨rfl, rfl, ?_⟩)
      rw [List.length_map] at h2
      have nn : ∀ n ∈ ns, 0 ≤ n := fun n hn => (xs n hn).1
      have h1' : ¬ ns.sum > 16 := fun z => h1 (decide_eq_true z)
      have h2' : ¬ ((ns.length : Nat) : Int) > 5 := fun z => h2 (decide_eq_true z)
      have := cnt_sum nn
      exact ⟨nn, by omega, by omega, by omega, by omega⟩
    rintro σ G ⟨rfl, rfl, sm⟩
    -- the store
    refine ⟨_, rfl, fun x dx nx ndx nex => ?_⟩
    have s1 : Same G1 (upd (upd G1 dx (.own x)) x (.ins C dx [])) := fun c o e => by
      rw [upd_ne (ne_of_none e nx), upd_ne (ne_of_none e ndx)]
      exact e
    have s1' : ∀ {c : Addr}, upd (upd G1 dx (.own x)) x (.ins C dx []) c = none → G1 c = none := fun h => s1.free h
    have sl1 := sm.s1
    have sl16 := sm.s16
    have l5 := sm.l5
    refine ⟨x, dx, a, ns, rfl, upd_same, s1 _ _ ea, sm.nn, by omega, by omega, sm.s1, by omega, fun G2 ls lm la off2 f1 f2 f3 S2 => ⟨rfl, ?_⟩⟩
    have s2 : Same G1 G2 := fun c o e => off2 c o (ne_of_none e nx) (s1 c o e)
    have fr1 : ∀ {c : Addr}, G1 c = none → H c = none := fun h => x1.free B1 h
    have neb : ∀ {c : Addr}, G1 c = none → c ≠ b := fun h z => by
      obtain ⟨_, _, _, e, _⟩ := B1
      rw [← z, h] at e; cases e
    refine fun g ng => ?_
    have s3 : Same G2 (upd G2 g (.dK [])) := same_upd ng
    have W1 : Wd C b x ls lm la g H (upd G2 g (.dK [])) (n + 100) [(a, ns)] [] [] [] :=
      ⟨boxBy B1 fun o e => s3 _ _ (s2 _ _ e), S2.same s3, upd_same, ⟨(fun e h => nomatch h), (fun e h => nomatch h), .nil, by decide⟩, ⟨(fun e h => nomatch h), (fun e h => nomatch h), .nil, by decide⟩, neb (s1' f1), neb (s1' f2), ne_of_none S2.aims ng, x1.trans (.of_same (s2.trans s3)), fr1 (s1' f1), fr1 (s1' f2), fr1 (s1' f3), fr1 (s2.free ng)⟩
    have s13 := s2.trans s3
    generalize upd G2 g (HO.dK []) = G3 at W1 s13 ⊢
    clear s1 s1' s2 s3 off2 f1 f2 f3 nx ndx nex ng S2
    refine fun lo nlo => ?_
    have s4 := same_upd (o := HO.dK []) nlo
    have Wl1 : Wl C b x ls lm la g lo H (upd G3 lo (.dK [])) (n + 100) [(a, ns)] [] [] [] :=
      ⟨W1.same s4, upd_same, (ne_of_none W1.S.aims nlo).symm, (ne_of_none W1.D nlo).symm, fr1 (s13.free nlo), .nil, (fun e h => nomatch h), Nat.le_refl _⟩
    have s14 := s13.trans s4
    generalize upd G3 lo (HO.dK []) = G4 at Wl1 s14 ⊢
    clear W1 s4 nlo s13
    refine ⟨by show 3 ≤ sizeLine; decide, fun tp ntp => ?_⟩
    have s5 := same_upd (o := HO.tup [.ref x, .ref g, .ref lo]) ntp
    have etp : upd G4 tp (.tup [.ref x, .ref g, .ref lo]) tp = some (.tup [.ref x, .ref g, .ref lo]) := upd_same
    refine ⟨tp, _, rfl, SqT.of etp, rfl, .ref x, [.ref g, .ref lo], rfl, .ref g, [.ref lo], rfl, .ref lo, [], rfl, rfl, ?_⟩
    have Wl2 := Wl1.same s5
    have s15 := s14.trans s5
    clear etp Wl1 s14
    generalize upd G4 tp (HO.tup [.ref x, .ref g, .ref lo]) = G5 at Wl2 s15 ⊢
    clear s5 ntp
    -- what is known
    refine fun kn nkn => ?_
    have s6 := same_upd (o := HO.dT []) nkn
    have ekn : upd G5 kn (.dT []) kn = some (.dT []) := upd_same
    have Wl3 := Wl2.same s6
    have s16 := s15.trans s6
    have fkn : H kn = none := fr1 (s15.free nkn)
    generalize upd G5 kn (HO.dT []) = G6 at ekn Wl3 s16 ⊢
    clear Wl2 s15 s6 nkn
    refine ⟨_, rfl, _, rfl, a, ns, rfl, s16 _ _ ea, sm.nn, by omega, sm.pow, fun d0 G7 En0 nd0 s7 ed0 all0 len0 => ?_⟩
    have ekn7 := s7 _ _ ekn
    have Wl4 := Wl3.same s7
    have dkn : d0 ≠ kn := (ne_of_none ekn nd0).symm
    have ea7 := s7 _ _ (s16 _ _ ea)
    refine ⟨ekn7, a, kR ns, rfl, by rw [kR_map]; exact ea7, ?_⟩
    have Wl5 : Wl C b x ls lm la g lo H (upd G7 kn (.dT [(kR ns, .ref d0)])) (n + 100) [(a, ns)] [] [] [] := Wl4.dt ekn7 fkn
    have K5 : Kn H (upd G7 kn (.dT [(kR ns, .ref d0)])) kn [(ns, d0)] := ⟨upd_same, fkn, fun e he => by
      rw [List.mem_singleton.mp he]
      exact ⟨dkn, En0, by rw [upd_ne dkn]; exact ed0, all0, len0⟩⟩
    generalize upd G7 kn (HO.dT [(kR ns, .ref d0)]) = G8 at Wl5 K5 ⊢
    clear Wl3 Wl4 ekn ekn7 s16 s7 ed0 all0 len0 nd0 dkn fr1 neb ea7
    refine ⟨_, rfl, b, 10, _, rfl, Wl5.W.B, by omega, by decide, by decide, fun rr G9 rr0 rr1 B9 k9 => ⟨3, rr, rfl, rfl, _, rfl, by omega, by omega, ?_⟩⟩
    have Wl6 := Wl5.draw B9 k9
    have K6 : Kn H G9 kn [(ns, d0)] := K5.keep fun c q e => by rw [k9 c (Wl5.dts e).1]; exact e
    have rrn : (3 + rr).toNat ≤ 12 := by omega
    generalize (3 + rr).toNat = TT at rrn ⊢
    refine for_range (lo := 0) (n := TT) (fun m σ G => ∃ (rs calls : List (Addr × List Int)) (a' : Addr) (ns' : List Int) (es : List (Str × Addr × List Int)) (L : List Str) (KN : List (List Int × Addr)) (y6 y7 y8 y9 y10 y11 : Option V),
      σ = [some (.ref b), some (.ref a), some (.ref x), some (.ref g), some (.ref lo), some (.ref kn), y6, y7, y8, y9, y10, y11] ∧ Wl C b x ls lm la g lo H G (n + 200 + 200 * m) (rs ++ [(a', ns')]) calls es L ∧ Sm ns' ∧ (∀ r ∈ rs, Sm r.2) ∧ rs.length ≤ m ∧ calls.length = rs.length ∧ es.length ≤ m ∧ LostOk ns' es L ∧ Kn H G kn KN ∧ ns' ∈ KN.map Prod.fst ∧ KN.length ≤ m + 1)
      ⟨[], [], a, ns, [], [], [(ns, d0)], _, _, _, _, _, _, rfl, Wl6.le (by omega), sm, (fun r h => nomatch h), Nat.le_refl _, rfl, Nat.le_refl _, (fun z h => nomatch h), K6, List.mem_cons_self, Nat.le_refl _⟩ ?_ ?_
    rotate_left
    · rintro σ G ⟨rs, calls, a', ns', es, L, KN, y6, y7, y8, y9, y10, y11, rfl, W, _⟩
      exact want G W.W.X
    clear Wl5 Wl6 K5 K6 k9 B9 x1 B1 ea
    rintro m σ G hm ⟨rs, calls, a', ns', es, L, KN, y6, y7, y8, y9, y10, y11, rfl, W, sm', srs, lrs, lcs, les, lost, KK, inK, lKN⟩
    obtain ⟨dx', hx'⟩ := W.W.S.ins
    have ea' : G a' = some (.tup (ns'.map V.int)) := W.W.S.stood.2 (a', ns') (List.mem_append_right _ List.mem_cons_self)
    have l5' := sm'.l5
    have l1' : 1 ≤ ns'.length := by
      have := sm'.s1
      cases ns' with
      | nil => simp at this
      | cons y t => show 1 ≤ t.length + 1; omega
    obtain ⟨d, hd, vd⟩ := kK_some inK
    obtain ⟨_, En, ed, all, lEn⟩ := KK.all (ns', d) hd
    have keys : ∀ e ∈ En, Re ns' e.1 := fun e he => (all e.1).mp (List.mem_map.mpr ⟨e, he, rfl⟩)
    refine ⟨_, rfl, _, rfl, _, rfl, _, rfl, _, rfl, _, rfl, x, dx', _, rfl, hx', noR _ _ _, x, ls, lm, la, rs, calls, (a', ns'), es.map gK, rfl, W.W.S, kn, .ref d, rfl, by rw [← vd]; exact DGet.t KK.kd (by rw [kR_map]; exact ea'), ?_⟩
    refine ⟨d, En.map dE, ns'.length, 17, rfl, ed, l1', fun z hz => ?_, fun p ys np ly ey => ?_⟩
    · obtain ⟨e, he, rfl⟩ := List.mem_map.mp hz
      obtain ⟨k1, k2, k3⟩ := (keys e he).keeps sm'.nn
      have := sm'.s16
      exact ⟨e.1, rfl, k1, fun m hm => ⟨k3 m hm, by have := mem_le_sumG k3 m hm; omega⟩⟩
    have ly' : 1 ≤ ys.length ∧ ys.length ≤ 10000000 := by
      rw [ly, List.length_map]
      exact ⟨List.length_pos_of_mem (List.mem_map.mp ((all ns').mpr .refl)).choose_spec.1, lEn⟩
    have s1 := same_upd (o := .lst ys) np
    have ep : upd G p (.lst ys) p = some (.lst ys) := upd_same
    have W1 := W.same s1
    have cm : Cm (upd G p (.lst ys)) ns' ys := fun y hy => by
      obtain ⟨z, q, hz, rfl, hq⟩ := ey y hy
      obtain ⟨e, he, rfl⟩ := List.mem_map.mp hz
      refine ⟨q, e.1, rfl, keys e he, s1 _ _ ?_⟩
      have : (dE e).1.map kV = e.1.map V.int := kR_map e.1
      rw [this] at hq
      exact hq
    have pb : b ≠ p := by
      obtain ⟨_, _, _, e, _⟩ := W.W.B
      exact ne_of_none e np
    have K1 : Kn H (upd G p (.lst ys)) kn KN := KK.keep fun c q e => s1 _ _ e
    generalize upd G p (HO.lst ys) = G1 at s1 ep W1 cm K1 ⊢
    refine ⟨b, x, ls, lm, la, g, lo, p, a', H, _, rs, calls, ns', es, L, ys, rfl, W1, by omega, sm', srs, by omega, lcs, by omega, lost, ep, pb, ly'.1, ly'.2, cm, fun G2 rs2 calls2 a2 ns2 es2 L2 W2 sm2 srs2 lrs2 lcs2 les2 lost2 fr2 => ?_⟩
    have K2 : Kn H G2 kn KN := K1.keep fun c q e => by
      obtain ⟨h1, h2, h3, h4, h5, h6⟩ := W1.dts e
      exact fr2 c _ h1 h2 h3 h4 h5 h6 e
    clear W W1 KK K1 cm ep ey np hd vd ed all lEn keys s1 lost ea' hx' fr2 pb ly ly' sm' l1' l5' srs
    -- where it stands
    obtain ⟨dx2, hx2⟩ := W2.W.S.ins
    have ea2 : G2 a2 = some (.tup (ns2.map V.int)) := W2.W.S.stood.2 (a2, ns2) (List.mem_append_right _ List.mem_cons_self)
    have l52 := sm2.l5
    have s162 := sm2.s16
    have s12 := sm2.s1
    refine ⟨_, rfl, x, dx2, _, rfl, hx2, noR _ _ _, x, ls, lm, la, rs2, calls2, (a2, ns2), es2.map gK, rfl, W2.W.S, ?_⟩
    refine ⟨fun σ' G' => σ' = [some (.ref b), some (.ref a), some (.ref x), some (.ref g), some (.ref lo), some (.ref kn), some (.int (0 + (m : Int))), some (.ref a2), y8, y9, y10, y11] ∧ ∃ KN' : List (List Int × Addr), Wl C b x ls lm la g lo H G' (n + 200 + 200 * m + 100) (rs2 ++ [(a2, ns2)]) calls2 es2 L2 ∧ Kn H G' kn KN' ∧ ns2 ∈ KN'.map Prod.fst ∧ KN'.length ≤ m + 2, ?_, ?_⟩
    · refine ⟨_, rfl, _, rfl, kn, _, rfl, DGet.t K2.kd (k := kR ns2) (by rw [kR_map]; exact ea2), _, rfl, ?_⟩
      by_cases hin : ns2 ∈ KN.map Prod.fst
      · obtain ⟨d, hd, vd⟩ := kK_some hin
        rw [vd]
        exact iteF ⟨rfl, KN, W2, K2, hin, by omega⟩
      · rw [kK_none hin]
        refine iteT ⟨_, rfl, a2, ns2, rfl, ea2, sm2.nn, by omega, sm2.pow, fun d G3 En nd s3 ed all len => ?_⟩
        have K3 : Kn H G3 kn KN := K2.keep fun c q e => s3 _ _ e
        have W3 := W2.same s3
        refine ⟨_, rfl, _, rfl, kn, _, rfl, DPut.t K3.kd (k := kR ns2) (by rw [kR_map]; exact s3 _ _ ea2) (by rw [List.length_map, sizeLine_eq]; omega), ?_⟩
        rw [putK_new _ (kK_none hin)]
        have dkn : d ≠ kn := (ne_of_none K2.kd nd).symm
        have e1 : KN.map kK ++ [(kR ns2, .ref d)] = (KN ++ [(ns2, d)]).map kK := by rw [List.map_append]; rfl
        rw [e1]
        refine ⟨rfl, KN ++ [(ns2, d)], W3.dt K3.kd K3.f, ⟨upd_same, K3.f, fun e he => ?_⟩, by rw [List.map_append]; exact List.mem_append_right _ List.mem_cons_self, by rw [List.length_append]; show KN.length + 1 ≤ _; omega⟩
        rcases List.mem_append.mp he with he | he
        · obtain ⟨h1, En', h2, h3⟩ := K3.all e he
          exact ⟨h1, En', by rw [upd_ne h1]; exact h2, h3⟩
        · rw [List.mem_singleton.mp he]
          exact ⟨dkn, En, by rw [upd_ne dkn]; exact ed, all, len⟩
    rintro σ' G3 ⟨rfl, KN', W3, K3, inK3, lKN3⟩
    clear W2 K2 hx2 ea2 inK lKN
    obtain ⟨d, hd, vd⟩ := kK_some inK3
    obtain ⟨_, En, ed, all, lEn⟩ := K3.all (ns2, d) hd
    have go := W3.W.ge
    have ea3 : G3 a2 = some (.tup (ns2.map V.int)) := W3.W.S.stood.2 (a2, ns2) (List.mem_append_right _ List.mem_cons_self)
    -- what is due
    refine ⟨_, rfl, g, es2.map gK, es2.map Prod.fst, rfl, .inl W3.W.D, gK_keys es2, by rw [List.length_map]; exact go.few, fun zs L4 perm srt nL4 => ?_⟩
    have s4 := same_upd (o := HO.lst (zs.map V.str)) nL4
    have eL4 : upd G3 L4 (.lst (zs.map V.str)) L4 = some (.lst (zs.map V.str)) := upd_same
    have W4 := W3.same s4
    have K4 : Kn H (upd G3 L4 (.lst (zs.map V.str))) kn KN' := K3.keep fun c q e => s4 _ _ e
    have go4 := go.same s4
    generalize upd G3 L4 (HO.lst (zs.map V.str)) = G4 at s4 eL4 W4 K4 go4 ⊢
    have ly : zs.length ≤ 12 := by rw [perm.length_eq, List.length_map]; omega
    have ed4 := s4 _ _ ed
    have ea4 := s4 _ _ ea3
    have row4 := sm2.row ea4
    refine ⟨L4, rfl, ⟨_, SqL.of eL4⟩, fun D nD => ?_⟩
    refine lc_list (K := K) (a := L4) (xs := zs.map V.str) (fun q G' => Same G4 G' ∧ ∃ ts : List Addr, G' D = some (.lst (ts.map V.ref)) ∧ PrSt G' ts ((zs.take q).map fun z => (z, stW ns2 (byN es2 z)))) ⟨same_upd nD, [], upd_same, .nil⟩ ?_ ?_ ?_
    · rintro q G' _ ⟨smg, _⟩
      exact SqL.of (smg _ _ eL4)
    · rintro q u G' hu' ⟨smg, ts, hD, pr⟩
      rw [List.getElem?_map] at hu'
      obtain ⟨z, hz, rfl⟩ := Option.map_eq_some_iff.mp hu'
      obtain ⟨e, he, rfl⟩ := List.mem_map.mp (perm.subset (List.mem_of_getElem? hz))
      refine ⟨rfl, _, rfl, _, rfl, _, rfl, _, rfl, g, .ref e.2.1, rfl, by rw [← gK_get go.nd he]; exact DGet.k (k := .inr e.1) (smg _ _ W4.W.D), _, rfl, _, rfl, kn, .ref d, rfl, by rw [← vd]; exact DGet.t (smg _ _ K4.kd) (by rw [kR_map]; exact smg _ _ ea4), a2, e.2.1, d, ns2, e.2.2, En, rfl, row4.same smg, (go4.rw e he).same smg, smg _ _ ed4, all, sm2, by show 2 ≤ sizeLine; decide, fun t nt => ?_⟩
      have s2 : Same G' G' := .refl G'
      generalize hH2 : G' = H2 at nt s2
      subst hH2
      have nD2 : D ≠ t := ne_of_none (s2 _ _ hD) nt
      refine ⟨_, by rw [upd_ne nD2]; exact s2 _ _ hD, by rw [List.length_map, pr.1, List.length_map, List.length_take, sizeLine_eq]; omega, fun b o eb => ?_, ts ++ [t], ?_, ?_⟩
      · have eb1 := s2 _ _ (smg _ _ eb)
        rw [upd_ne (ne_of_none eb nD), upd_ne (ne_of_none eb1 nt)]
        exact eb1
      · rw [upd_same, List.map_append]; rfl
      · rw [List.take_add_one, hz, List.map_append]
        have tD : t ≠ D := Ne.symm nD2
        refine PrSt.snoc ⟨pr.1, fun i t' c h1 h2 => ?_⟩ ?_
        · have h3 := s2 _ _ (pr.2 i t' c h1 h2)
          rw [upd_ne (fun z => by rw [z] at h3; rw [s2 _ _ hD] at h3; cases h3), upd_ne (ne_of_none h3 nt)]
          exact h3
        · show upd (upd G' t _) D _ t = _
          rw [upd_ne tD, upd_same]
          show _ = some (HO.tup [V.str e.1, V.str (stW ns2 (byN es2 e.1))])
          rw [byN_mem go.nd he]
    rintro G5 ⟨s5, ts5, hD5, pr5⟩
    rw [List.length_map, List.take_length] at pr5
    have W5 := W4.same s5
    -- what is told
    have eDu := hD5
    have nD5 : D ≠ b := fun z => by
      obtain ⟨_, _, _, e, _⟩ := W5.W.B
      obtain ⟨_, _, _, e4, _⟩ := W4.W.B
      rw [z, e4] at nD; cases nD
    refine ⟨_, rfl, g, es2.map gK, es2.map Prod.fst, rfl, .inl W5.W.D, gK_keys es2, by rw [List.length_map]; exact go.few, fun zs2 L6 perm2 srt2 nL6 => ?_⟩
    have ez := sortedS_uniq (perm2.trans perm.symm) srt2 srt
    subst ez
    have s6 := same_upd (o := HO.lst (zs2.map V.str)) nL6
    have eL6 : upd G5 L6 (.lst (zs2.map V.str)) L6 = some (.lst (zs2.map V.str)) := upd_same
    have W6 := W5.same s6
    have s56 := s5.trans s6
    have hD6 := s6 _ _ hD5
    have pr6 := pr5.same s6
    generalize upd G5 L6 (HO.lst (zs2.map V.str)) = G6 at s6 eL6 W6 s56 hD6 pr6 ⊢
    have row6 := row4.same s56
    have go6 := go4.same s56
    obtain ⟨Du, hDu⟩ : ∃ Du, Du = D := ⟨_, rfl⟩
    rw [← hDu] at hD6
    rw [← hDu]
    clear eDu hD5 nD hDu nD5
    clear D
    refine ⟨L6, rfl, ⟨_, SqL.of eL6⟩, fun D nD => ?_⟩
    refine lc_list (K := K) (a := L6) (xs := zs2.map V.str) (fun q G' => Same G6 G' ∧ ∃ ts : List Addr, G' D = some (.lst (ts.map V.ref)) ∧ PrSt G' ts ((zs2.take q).map fun z => (z, stW ns2 (byN es2 z)))) ⟨same_upd nD, [], upd_same, .nil⟩ ?_ ?_ ?_
    · rintro q G' _ ⟨smg, _⟩
      exact SqL.of (smg _ _ eL6)
    · rintro q u G' hu' ⟨smg, ts, hD, pr⟩
      rw [List.getElem?_map] at hu'
      obtain ⟨z, hz, rfl⟩ := Option.map_eq_some_iff.mp hu'
      obtain ⟨e, he, rfl⟩ := List.mem_map.mp (perm2.subset (List.mem_of_getElem? hz))
      have Wg := W6.same smg
      obtain ⟨dxg, hxg⟩ := Wg.W.S.ins
      refine ⟨rfl, _, rfl, _, rfl, x, dxg, _, rfl, hxg, noMs _ _ _, _, rfl, x, ls, lm, la, rs2, calls2, a2, e.2.1, ns2, e.2.2, es2.map gK, e.1, rfl, Wg.W.S, go.nm e he, gK_get go.nd he, row6.same smg, (go6.rw e he).same smg, by omega, fun H2 s2 => ⟨by show 2 ≤ sizeLine; decide, fun t nt => ?_⟩⟩
      have nD2 : D ≠ t := ne_of_none (s2 _ _ hD) nt
      refine ⟨_, by rw [upd_ne nD2]; exact s2 _ _ hD, by rw [List.length_map, pr.1, List.length_map, List.length_take, sizeLine_eq]; omega, fun b o eb => ?_, ts ++ [t], ?_, ?_⟩
      · have eb1 := s2 _ _ (smg _ _ eb)
        rw [upd_ne (ne_of_none eb nD), upd_ne (ne_of_none eb1 nt)]
        exact eb1
      · rw [upd_same, List.map_append]; rfl
      · rw [List.take_add_one, hz, List.map_append]
        have tD : t ≠ D := Ne.symm nD2
        refine PrSt.snoc ⟨pr.1, fun i t' c h1 h2 => ?_⟩ ?_
        · have h3 := s2 _ _ (pr.2 i t' c h1 h2)
          rw [upd_ne (fun z => by rw [z] at h3; rw [s2 _ _ hD] at h3; cases h3), upd_ne (ne_of_none h3 nt)]
          exact h3
        · show upd (upd H2 t _) D _ t = _
          rw [upd_ne tD, upd_same]
          show _ = some (HO.tup [V.str e.1, V.str (stW ns2 (byN es2 e.1))])
          rw [byN_mem go.nd he]
    rintro G7 ⟨s7, ts7, hD7, pr7⟩
    rw [List.length_map, List.take_length] at pr7
    refine ⟨D, _, rfl, .inl ⟨SqL.of hD7, fun tu ntu => ?_⟩⟩
    have s8 := same_upd (o := HO.tup (ts7.map V.ref)) ntu
    have etu : upd G7 tu (.tup (ts7.map V.ref)) tu = some (.tup (ts7.map V.ref)) := upd_same
    have s78 := s7.trans s8
    have W8 := W6.same s78
    have pr8 := pr7.same s8
    have hDu8 := s78 _ _ hD6
    have prd := pr6.same s78
    generalize upd G7 tu (HO.tup (ts7.map V.ref)) = G8 at s8 etu s78 W8 pr8 hDu8 prd ⊢
    have row8 := row6.same s78
    have go8 := go6.same s78
    have zin : ∀ z ∈ zs2, z ∈ nm6 := fun z hz => by
      obtain ⟨e, he, rfl⟩ := List.mem_map.mp (perm2.subset hz)
      exact W8.nm e he
    have ok : ReprOk (dueD ns2 es2 zs2) := due_sh zin (by omega)
    have K8 : Kn H G8 kn KN' := K4.keep fun c q e => s78 _ _ (s56 _ _ e)
    clear s4 s5 s6 s7 s8 s56 s78 eL4 eL6 W4 W5 W6 row4 row6 go4 go6 pr5 pr6 pr7 hD6 hD7 nD nL4 nL6 ed4 ea4 K4
    refine ⟨fun σ G' => σ = [some (.ref b), some (.ref a), some (.ref x), some (.ref g), some (.ref lo), some (.ref kn), some (.int (0 + (m : Int))), some (.ref a2), y8, some (.ref Du), some (.ref tu), y11] ∧ Same G8 G', ?_, ?_⟩
    · obtain ⟨dx8, hx8⟩ := W8.W.S.ins
      refine ⟨_, rfl, x, dx8, _, rfl, hx8, noGo _ _ _, x, ls, lm, la, rs2, calls2, a2, ns2, es2, rfl, W8.W.S, row8, by omega, go8, fun G9 p9 ts9 zs9 s9 np9 ep9 pr9 perm9 srt9 => ?_⟩
      have ez9 := sortedS_uniq (perm9.trans perm2.symm) srt9 srt2
      rw [ez9] at pr9
      refine ⟨_, _, rfl, dueDd ep9 pr9, ok.1, ok.2.1, ok.2.2, ?_⟩
      refine ⟨_, rfl, Du, _, rfl, .inl ⟨SqL.of (s9 _ _ hDu8), fun u nu => ?_⟩⟩
      have s10 := same_upd (o := HO.tup (ts5.map V.ref)) nu
      have s90 := s9.trans s10
      refine ⟨_, _, rfl, dueDd upd_same (prd.same s90), ok.1, ok.2.1, ok.2.2, rfl, _, rfl, iteNS rfl ?_⟩
      refine ⟨_, rfl, _, _, rfl, dueDd (s90 _ _ etu) (pr8.same s90), ok.1, ok.2.1, ok.2.2, ?_⟩
      have hDu10 := s90 _ _ hDu8
      have prd10 := prd.same s90
      generalize upd (G9) u (HO.tup (ts5.map V.ref)) = G10 at s10 s90 hDu10 prd10 ⊢
      refine ⟨_, rfl, Du, _, rfl, .inl ⟨SqL.of hDu10, fun u2 nu2 => ?_⟩⟩
      have s11 := same_upd (o := HO.tup (ts5.map V.ref)) nu2
      exact ⟨_, _, rfl, dueDd upd_same (prd10.same s11), ok.1, ok.2.1, ok.2.2, rfl, _, rfl, iteNS rfl ⟨rfl, s90.trans s11⟩⟩
    rintro σ G9 ⟨rfl, s9⟩
    have W9 := W8.same s9
    have K9 : Kn H G9 kn KN' := K8.keep fun c q e => s9 _ _ e
    have hDu9 := s9 _ _ hDu8
    have prd9 := prd.same s9
    clear W8 K8 hDu8 prd s9 etu pr8 row8 go8
    have lts : ts5.length = zs2.length := by rw [prd9.1, List.length_map]
    refine ⟨_, rfl, Du, rfl, ⟨_, SqL.of hDu9⟩, ?_⟩
    have hDuLo : Du ≠ lo := fun z => by
      have := W9.dl
      rw [← z, hDu9] at this; cases this
    refine for_list (K := K) (a := Du) (xs := ts5.map V.ref) (fun q σ G => ∃ (Lq : List Str) (y8 y11 : Option V), σ = [some (.ref b), some (.ref a), some (.ref x), some (.ref g), some (.ref lo), some (.ref kn), some (.int (0 + (m : Int))), some (.ref a2), y8, some (.ref Du), some (.ref tu), y11] ∧
      Wl C b x ls lm la g lo H G (n + 200 + 200 * m + 100) (rs2 ++ [(a2, ns2)]) calls2 es2 Lq ∧ LostOk ns2 es2 Lq ∧ ∀ c o, c ≠ lo → G9 c = some o → G c = some o) ⟨L2, _, _, rfl, W9, lost2, fun _ _ _ e => e⟩ ?_ ?_ ?_
    · rintro q σ G _ ⟨Lq, y8, y11, rfl, _, _, k⟩
      exact SqL.of (k _ _ hDuLo hDu9)
    rotate_left
    · rintro σ G ⟨Lq, y8, y11, rfl, Wq, lq, k⟩
      refine ⟨rs2, calls2, a2, ns2, es2, Lq, KN', _, _, _, _, _, _, rfl, Wq.le (by omega), sm2, srs2, by omega, lcs2, by omega, lq, K9.keep fun c q e => k _ _ (W9.dts e).2.2.2.2.2 e, inK3, by omega⟩
    rintro q u σ G hu' ⟨Lq, y8, y11, rfl, Wq, lq, k⟩
    rw [List.getElem?_map] at hu'
    obtain ⟨t, ht, rfl⟩ := Option.map_eq_some_iff.mp hu'
    have hq : q < ts5.length := (List.getElem?_eq_some_iff.mp ht).1
    have hz : zs2[q]? = some zs2[q] := List.getElem?_eq_getElem (by omega)
    generalize zs2[q] = z at hz
    have et9 := prd9.2 q t (z, stW ns2 (byN es2 z)) ht (by rw [List.getElem?_map, hz]; rfl)
    have tlo : t ≠ lo := fun w => by
      have := W9.dl
      rw [← w, et9] at this; cases this
    have et := k _ _ tlo et9
    have zn : z ∈ es2.map Prod.fst := perm2.subset (List.mem_of_getElem? hz)
    refine ⟨t, _, rfl, SqT.of et, rfl, .str z, [.str (stW ns2 (byN es2 z))], rfl, .str (stW ns2 (byN es2 z)), [], rfl, rfl, ?_⟩
    refine ⟨fun σ' G' => σ' = [some (.ref b), some (.ref a), some (.ref x), some (.ref g), some (.ref lo), some (.ref kn), some (.int (0 + (m : Int))), some (.ref a2), some (.str z), some (.ref Du), some (.ref tu), some (.str (stW ns2 (byN es2 z)))] ∧ G' = G, ?_, ?_⟩
    · refine ⟨_, rfl, _, rfl, lo, _, rfl, DGet.k (k := .inr z) Wq.dl, _, rfl, ?_⟩
      rw [lK_get]
      by_cases hin : z ∈ Lq
      · rw [if_pos hin]
        refine iteT ⟨_, rfl, rfl, _, rfl, ?_⟩
        rw [decS, decide_eq_true (stW_lost.mpr (lq z hin).2)]
        exact iteF ⟨rfl, rfl⟩
      · rw [if_neg hin]
        exact iteF (iteF ⟨rfl, rfl⟩)
    rintro σ' G' ⟨rfl, rfl⟩
    refine ⟨_, rfl, rfl, _, rfl, ?_⟩
    rw [decS]
    by_cases hl : stW ns2 (byN es2 z) = "lost"
    · rw [decide_eq_true hl]
      have lq' := lq.putL zn hl
      have fw := lq.few Wq.nd
      refine iteT ⟨_, rfl, _, rfl, lo, _, rfl, .inl ⟨Lq.map lK, .inr z, Wq.dl, rfl, by rw [List.length_map, sizeLine_eq]; omega, rfl⟩, ?_⟩
      rw [lK_put]
      exact ⟨putL Lq z, _, _, rfl, Wq.lost (putL_nd Wq.nd) (lq'.few (putL_nd Wq.nd)), lq', fun c o hc e => by rw [upd_ne hc]; exact k c o hc e⟩
    · rw [decide_eq_false hl]
      exact iteF ⟨Lq, _, _, rfl, Wq, lq, k⟩
end
end K56

namespace K56
open PySem PySem.Spec PyProof.Rows L2 MG LamX
abbrev sLaw : Stmt := topS 65
abbrev nLaw : List Str := ["_law_script", "_law_k"]
theorem scLaw : FnScope ["_law_script", "_law_k"] ["_law_script"] (defScope sLaw) := ⟨rfl, rfl, rfl, by decide +kernel, rfl, by decide +kernel, by decide +kernel⟩

section
variable {P : Program} {w : World} {K : PySem.W.Frag} {mg : Str → Option Value} {base : Heap}
def spLaw (K : PySem.W.Frag) : Sp := fun vs H Q _ => ∃ (a : Addr) (ns : List Int), vs = [.ref a] ∧ SqL K H a (ns.map V.int) ∧ ns.length ≤ 63 ∧ ∀ H', Q (.bl true) H'
theorem ok_law {f fX fR : Addr} {fd fdX fdR : FuncData} {k : Nat} (F : Fun K "law" "law" sLaw f fd)
    (FX : Fun K "_law_box" "_law_box" sBox fX fdX) (bX : Binds K fdX ["_law_script", "_law_k"] []) (gX : mg "_law_box" = some (.ref fX)) (GX : FnOk P w K mg base CX0 (k + 1) fX fdX ["_law_script", "_law_k"] (spBox K))
    (FR : Fun K "_law_right" "_law_right" sRight fR fdR) (bR : Binds K fdR ["_law_box_here"] []) (gR : mg "_law_right" = some (.ref fR)) (GR : FnG P w K mg base (k + 12) fR fdR ["_law_box_here"] spRight)
    (m_len : mg "len" = none) (m_min : mg "min" = none) (m_max : mg "max" = none) (m_range : mg "range" = none) (m_all : mg "all" = none) : FnG P w K mg base (k + 13) f fd ["_law_script"] (spLaw K) := by
  refine okG F scLaw (fun vs H Q E h => ?_) (fun cdv A outer s H vs Q E gd hr h => ?_)
  · obtain ⟨a, ns, rfl, _⟩ := h
    rfl
  · obtain ⟨a, ns, rfl, hS, hlen, q⟩ := h
    have hr1 := hr.mono (show k + 1 ≤ k + 12 by omega)
    have hr12 := hr
    refine ⟨_, pss_one (ps_ret (pe_callB (cr_all rfl) (by rfl) m_all (by decide +kernel) (pa_cons (pe_lc (own := [("_law_k", 1)]) (g := gName 1) (tt := tYes) rfl scLaw.nd (pi_range1 (by rfl) m_range (pa_cons (pe_callB (call_max2 rfl) (by rfl) m_max (by decide +kernel) (pa_cons pe_int (pa_cons (pe_callB (call_min2 rfl) (by rfl) m_min (by decide +kernel) (pa_cons pe_int (pa_cons (pe_callB call_len_seq (by rfl) m_len PySem.boot_len (pa_cons (pv 0) pa_nil)) pa_nil))) pa_nil))) pa_nil)) (blkOk_by (N := nLaw) (sc := defScope sLaw) (by decide +kernel)) (fun _ _ _ _ _ => pg_name (i := 1) scLaw.nd rfl (Or.inl rfl)) (fun _ _ _ _ _ => pts_nil) (fun _ _ _ _ _ => pe_callG (E := E0) GR gd hr12 (by rfl) gR FR.kp bR (pa_cons (pe_call GX hr1 (by rfl) gX FX.kp bX .nil pass0 (pa_cons (pv 0) (pa_cons (pv 1) pa_nil))) pa_nil))) pa_nil))), ?_⟩
    refine ⟨.ref a, rfl, a, _, rfl, .inl hS, 2, _, rfl, 1, _, rfl, _, rfl, ?_, ?_, fun D nD => ?_⟩
    · rw [List.length_map]; repeat' split <;> omega
    · rw [List.length_map]; repeat' split <;> omega
    refine lc_range (lo := 0) (n := _) (fun m G' => Same H G' ∧ G' D = some (.lst ((List.replicate m true).map V.bl))) ⟨same_upd nD, upd_same⟩ ?_ ?_
    · rintro m G0 hm ⟨s0, hD⟩
      have hm4 : m < 5 := by
        refine Nat.lt_of_lt_of_le hm ?_
        rw [List.length_map]; repeat' split <;> omega
      refine ⟨rfl, .ref a, rfl, _, rfl, a, ns, 0 + (m : Int), rfl, s0.seq hS, by omega, by omega, fun b H1 nb s1 hB k1 => ?_⟩
      have keep : ∀ {G : Hp}, SX b H1 G → Same H G := fun x c o hc => x c o (ne_of_none (s0 _ _ hc) nb) (s1 _ _ (s0 _ _ hc))
      have Db : D ≠ b := ne_of_none hD nb
      refine ⟨b, 0, rfl, hB, by omega, fun G2 x2 => ?_⟩
      have hD2 : G2 D = some (.lst ((List.replicate m true).map V.bl)) := x2 D _ Db (s1 _ _ hD)
      refine ⟨_, hD2, ?_, ⟨fun c o hc => ?_, ?_⟩⟩
      · rw [List.length_map, List.length_replicate, sizeLine_eq]; omega
      · rw [upd_ne (ne_of_none hc nD)]; exact keep x2 c o hc
      · rw [upd_same, List.replicate_succ', List.map_append]; rfl
    rintro G3 ⟨s3, hD⟩
    refine ⟨D, List.replicate _ true, rfl, SqL.of hD, ?_⟩
    rw [show ∀ n : Nat, (List.replicate n true).all id = true from fun n => List.all_eq_true.mpr fun z hz => by rw [List.eq_of_mem_replicate hz]; rfl]
    exact q G3
end
end K56

namespace K56
open PySem PySem.Spec PyProof.Rows L2 MG LamX
theorem all_mk {l : PySem.W.OpenLaw} {w : World} {K : PySem.W.Frag} {h : Heap} {mg : Str → Option Value} {fa : Addr} (X : K.In h) (G : h.Ns mainGlobals mg) (hfa : mg "law" = some (.ref fa))
    {C : Addr}
    {fBox : Addr} {odBox anBox : Option Addr} {slBox : Array (Option Value)} {ocBox kVBox dcBox pmBox cdBox ctBox : Value}
    (aBox : PySem.W.nsIn K mainGlobals "_law_box" = some (some (.ref fBox))) (lBox : K.lookup fBox = some ⟨ocBox, odBox, .func (PySem.W.fnOf "_law_box" "_law_box" (defArgs sBox) (defBody sBox) (defScope sBox) .none kVBox dcBox pmBox anBox cdBox ctBox), slBox⟩) (cBox : PySem.W.codeIn K cdBox "_law_box" = true) (kBox : PySem.W.keepIn K (.ref fBox) = true)
    {fTake : Addr} {odTake anTake : Option Addr} {slTake : Array (Option Value)} {ocTake kVTake dcTake pmTake cdTake ctTake : Value}
    (aTake : PySem.W.nsIn K mainGlobals "_law_take" = some (some (.ref fTake))) (lTake : K.lookup fTake = some ⟨ocTake, odTake, .func (PySem.W.fnOf "_law_take" "_law_take" (defArgs sTake) (defBody sTake) (defScope sTake) .none kVTake dcTake pmTake anTake cdTake ctTake), slTake⟩) (cTake : PySem.W.codeIn K cdTake "_law_take" = true) (kTake : PySem.W.keepIn K (.ref fTake) = true)
    {fOf : Addr} {odOf anOf : Option Addr} {slOf : Array (Option Value)} {ocOf kVOf dcOf pmOf cdOf ctOf : Value}
    (aOf : PySem.W.nsIn K mainGlobals "_law_of" = some (some (.ref fOf))) (lOf : K.lookup fOf = some ⟨ocOf, odOf, .func (PySem.W.fnOf "_law_of" "_law_of" (defArgs sOf) (defBody sOf) (defScope sOf) .none kVOf dcOf pmOf anOf cdOf ctOf), slOf⟩) (cOf : PySem.W.codeIn K cdOf "_law_of" = true) (kOf : PySem.W.keepIn K (.ref fOf) = true)
    {fSplit : Addr} {odSplit anSplit : Option Addr} {slSplit : Array (Option Value)} {ocSplit kVSplit dcSplit pmSplit cdSplit ctSplit : Value}
    (aSplit : PySem.W.nsIn K mainGlobals "_law_split" = some (some (.ref fSplit))) (lSplit : K.lookup fSplit = some ⟨ocSplit, odSplit, .func (PySem.W.fnOf "_law_split" "_law_split" (defArgs sSplit) (defBody sSplit) (defScope sSplit) .none kVSplit dcSplit pmSplit anSplit cdSplit ctSplit), slSplit⟩) (cSplit : PySem.W.codeIn K cdSplit "_law_split" = true) (kSplit : PySem.W.keepIn K (.ref fSplit) = true)
    {fPlaces : Addr} {odPlaces anPlaces : Option Addr} {slPlaces : Array (Option Value)} {ocPlaces kVPlaces dcPlaces pmPlaces cdPlaces ctPlaces : Value}
    (aPlaces : PySem.W.nsIn K mainGlobals "_law_places" = some (some (.ref fPlaces))) (lPlaces : K.lookup fPlaces = some ⟨ocPlaces, odPlaces, .func (PySem.W.fnOf "_law_places" "_law_places" (defArgs sPlaces) (defBody sPlaces) (defScope sPlaces) .none kVPlaces dcPlaces pmPlaces anPlaces cdPlaces ctPlaces), slPlaces⟩) (cPlaces : PySem.W.codeIn K cdPlaces "_law_places" = true) (kPlaces : PySem.W.keepIn K (.ref fPlaces) = true)
    {fLine : Addr} {odLine anLine : Option Addr} {slLine : Array (Option Value)} {ocLine kVLine dcLine pmLine cdLine ctLine : Value}
    (aLine : PySem.W.nsIn K mainGlobals "_law_row" = some (some (.ref fLine))) (lLine : K.lookup fLine = some ⟨ocLine, odLine, .func (PySem.W.fnOf "_law_row" "_law_row" (defArgs sLine) (defBody sLine) (defScope sLine) .none kVLine dcLine pmLine anLine cdLine ctLine), slLine⟩) (cLine : PySem.W.codeIn K cdLine "_law_row" = true) (kLine : PySem.W.keepIn K (.ref fLine) = true)
    {fWhole : Addr} {odWhole anWhole : Option Addr} {slWhole : Array (Option Value)} {ocWhole kVWhole dcWhole pmWhole cdWhole ctWhole : Value}
    (aWhole : PySem.W.nsIn K mainGlobals "is_whole" = some (some (.ref fWhole))) (lWhole : K.lookup fWhole = some ⟨ocWhole, odWhole, .func (PySem.W.fnOf "is_whole" "is_whole" (defArgs sWhole) (defBody sWhole) (defScope sWhole) .none kVWhole dcWhole pmWhole anWhole cdWhole ctWhole), slWhole⟩) (cWhole : PySem.W.codeIn K cdWhole "is_whole" = true) (kWhole : PySem.W.keepIn K (.ref fWhole) = true)
    {fRow : Addr} {odRow anRow : Option Addr} {slRow : Array (Option Value)} {ocRow kVRow dcRow pmRow cdRow ctRow : Value}
    (aRow : PySem.W.nsIn K mainGlobals "is_row" = some (some (.ref fRow))) (lRow : K.lookup fRow = some ⟨ocRow, odRow, .func (PySem.W.fnOf "is_row" "is_row" (defArgs sRow) (defBody sRow) (defScope sRow) .none kVRow dcRow pmRow anRow cdRow ctRow), slRow⟩) (cRow : PySem.W.codeIn K cdRow "is_row" = true) (kRow : PySem.W.keepIn K (.ref fRow) = true)
    {fInit : Addr} {odInit anInit : Option Addr} {slInit : Array (Option Value)} {ocInit kVInit dcInit pmInit cdInit ctInit : Value}
    (aInit : PySem.W.findIn K (.ref C) "__init__" = some (some (.ref fInit))) (iInit : PySem.W.isFn K (.ref fInit) = true) (lInit : K.lookup fInit = some ⟨ocInit, odInit, .func (PySem.W.fnOf "__init__" "Store.__init__" (defArgs sInit) (defBody sInit) (defScope sInit) .none kVInit dcInit pmInit anInit cdInit ctInit), slInit⟩) (cInit : PySem.W.codeIn K cdInit "Store.__init__" = true) (kInit : PySem.W.keepIn K (.ref fInit) = true)
    {fMRow : Addr} {odMRow anMRow : Option Addr} {slMRow : Array (Option Value)} {ocMRow kVMRow dcMRow pmMRow cdMRow ctMRow : Value}
    (aMRow : PySem.W.findIn K (.ref C) "row" = some (some (.ref fMRow))) (iMRow : PySem.W.isFn K (.ref fMRow) = true) (lMRow : K.lookup fMRow = some ⟨ocMRow, odMRow, .func (PySem.W.fnOf "row" "Store.row" (defArgs sMRow) (defBody sMRow) (defScope sMRow) .none kVMRow dcMRow pmMRow anMRow cdMRow ctMRow), slMRow⟩) (cMRow : PySem.W.codeIn K cdMRow "Store.row" = true) (kMRow : PySem.W.keepIn K (.ref fMRow) = true)
    {fOs : Addr} {odOs anOs : Option Addr} {slOs : Array (Option Value)} {ocOs kVOs dcOs pmOs cdOs ctOs : Value}
    (aOs : PySem.W.nsIn K mainGlobals "is_of_signs" = some (some (.ref fOs))) (lOs : K.lookup fOs = some ⟨ocOs, odOs, .func (PySem.W.fnOf "is_of_signs" "is_of_signs" (defArgs sOs) (defBody sOs) (defScope sOs) .none kVOs dcOs pmOs anOs cdOs ctOs), slOs⟩) (cOs : PySem.W.codeIn K cdOs "is_of_signs" = true) (kOs : PySem.W.keepIn K (.ref fOs) = true)
    {fNa : Addr} {odNa anNa : Option Addr} {slNa : Array (Option Value)} {ocNa kVNa dcNa pmNa cdNa ctNa : Value}
    (aNa : PySem.W.nsIn K mainGlobals "is_name" = some (some (.ref fNa))) (lNa : K.lookup fNa = some ⟨ocNa, odNa, .func (PySem.W.fnOf "is_name" "is_name" (defArgs sNa) (defBody sNa) (defScope sNa) .none kVNa dcNa pmNa anNa cdNa ctNa), slNa⟩) (cNa : PySem.W.codeIn K cdNa "is_name" = true) (kNa : PySem.W.keepIn K (.ref fNa) = true)
    {fTwosIn : Addr} {odTwosIn anTwosIn : Option Addr} {slTwosIn : Array (Option Value)} {ocTwosIn kVTwosIn dcTwosIn pmTwosIn cdTwosIn ctTwosIn : Value}
    (aTwosIn : PySem.W.nsIn K mainGlobals "twos_in" = some (some (.ref fTwosIn))) (lTwosIn : K.lookup fTwosIn = some ⟨ocTwosIn, odTwosIn, .func (PySem.W.fnOf "twos_in" "twos_in" (defArgs sTwosIn) (defBody sTwosIn) (defScope sTwosIn) .none kVTwosIn dcTwosIn pmTwosIn anTwosIn cdTwosIn ctTwosIn), slTwosIn⟩) (cTwosIn : PySem.W.codeIn K cdTwosIn "twos_in" = true) (kTwosIn : PySem.W.keepIn K (.ref fTwosIn) = true)
    {fCommon : Addr} {odCommon anCommon : Option Addr} {slCommon : Array (Option Value)} {ocCommon kVCommon dcCommon pmCommon cdCommon ctCommon : Value}
    (aCommon : PySem.W.nsIn K mainGlobals "common_part" = some (some (.ref fCommon))) (lCommon : K.lookup fCommon = some ⟨ocCommon, odCommon, .func (PySem.W.fnOf "common_part" "common_part" (defArgs sCommon) (defBody sCommon) (defScope sCommon) .none kVCommon dcCommon pmCommon anCommon cdCommon ctCommon), slCommon⟩) (cCommon : PySem.W.codeIn K cdCommon "common_part" = true) (kCommon : PySem.W.keepIn K (.ref fCommon) = true)
    {fUnit : Addr} {odUnit anUnit : Option Addr} {slUnit : Array (Option Value)} {ocUnit kVUnit dcUnit pmUnit cdUnit ctUnit : Value}
    (aUnit : PySem.W.nsIn K mainGlobals "unit" = some (some (.ref fUnit))) (lUnit : K.lookup fUnit = some ⟨ocUnit, odUnit, .func (PySem.W.fnOf "unit" "unit" (defArgs sUnit) (defBody sUnit) (defScope sUnit) .none kVUnit dcUnit pmUnit anUnit cdUnit ctUnit), slUnit⟩) (cUnit : PySem.W.codeIn K cdUnit "unit" = true) (kUnit : PySem.W.keepIn K (.ref fUnit) = true)
    {fTwos : Addr} {odTwos anTwos : Option Addr} {slTwos : Array (Option Value)} {ocTwos kVTwos dcTwos pmTwos cdTwos ctTwos : Value}
    (aTwos : PySem.W.nsIn K mainGlobals "twos" = some (some (.ref fTwos))) (lTwos : K.lookup fTwos = some ⟨ocTwos, odTwos, .func (PySem.W.fnOf "twos" "twos" (defArgs sTwos) (defBody sTwos) (defScope sTwos) .none kVTwos dcTwos pmTwos anTwos cdTwos ctTwos), slTwos⟩) (cTwos : PySem.W.codeIn K cdTwos "twos" = true) (kTwos : PySem.W.keepIn K (.ref fTwos) = true)
    {fHfn : Addr} {odHfn anHfn : Option Addr} {slHfn : Array (Option Value)} {ocHfn kVHfn dcHfn pmHfn cdHfn ctHfn : Value}
    (aHfn : PySem.W.nsIn K mainGlobals "has_from_nothing" = some (some (.ref fHfn))) (lHfn : K.lookup fHfn = some ⟨ocHfn, odHfn, .func (PySem.W.fnOf "has_from_nothing" "has_from_nothing" (defArgs sHfn) (defBody sHfn) (defScope sHfn) .none kVHfn dcHfn pmHfn anHfn cdHfn ctHfn), slHfn⟩) (cHfn : PySem.W.codeIn K cdHfn "has_from_nothing" = true) (kHfn : PySem.W.keepIn K (.ref fHfn) = true)
    {fOddPart : Addr} {odOddPart anOddPart : Option Addr} {slOddPart : Array (Option Value)} {ocOddPart kVOddPart dcOddPart pmOddPart cdOddPart ctOddPart : Value}
    (aOddPart : PySem.W.nsIn K mainGlobals "odd_part" = some (some (.ref fOddPart))) (lOddPart : K.lookup fOddPart = some ⟨ocOddPart, odOddPart, .func (PySem.W.fnOf "odd_part" "odd_part" (defArgs sOddPart) (defBody sOddPart) (defScope sOddPart) .none kVOddPart dcOddPart pmOddPart anOddPart cdOddPart ctOddPart), slOddPart⟩) (cOddPart : PySem.W.codeIn K cdOddPart "odd_part" = true) (kOddPart : PySem.W.keepIn K (.ref fOddPart) = true)
    {fMeasure : Addr} {odMeasure anMeasure : Option Addr} {slMeasure : Array (Option Value)} {ocMeasure kVMeasure dcMeasure pmMeasure cdMeasure ctMeasure : Value}
    (aMeasure : PySem.W.nsIn K mainGlobals "measure" = some (some (.ref fMeasure))) (lMeasure : K.lookup fMeasure = some ⟨ocMeasure, odMeasure, .func (PySem.W.fnOf "measure" "measure" (defArgs sMeasure) (defBody sMeasure) (defScope sMeasure) .none kVMeasure dcMeasure pmMeasure anMeasure cdMeasure ctMeasure), slMeasure⟩) (cMeasure : PySem.W.codeIn K cdMeasure "measure" = true) (kMeasure : PySem.W.keepIn K (.ref fMeasure) = true)
    {fOddOnes : Addr} {odOddOnes anOddOnes : Option Addr} {slOddOnes : Array (Option Value)} {ocOddOnes kVOddOnes dcOddOnes pmOddOnes cdOddOnes ctOddOnes : Value}
    (aOddOnes : PySem.W.nsIn K mainGlobals "odd_ones" = some (some (.ref fOddOnes))) (lOddOnes : K.lookup fOddOnes = some ⟨ocOddOnes, odOddOnes, .func (PySem.W.fnOf "odd_ones" "odd_ones" (defArgs sOddOnes) (defBody sOddOnes) (defScope sOddOnes) .none kVOddOnes dcOddOnes pmOddOnes anOddOnes cdOddOnes ctOddOnes), slOddOnes⟩) (cOddOnes : PySem.W.codeIn K cdOddOnes "odd_ones" = true) (kOddOnes : PySem.W.keepIn K (.ref fOddOnes) = true)
    {fHolders : Addr} {odHolders anHolders : Option Addr} {slHolders : Array (Option Value)} {ocHolders kVHolders dcHolders pmHolders cdHolders ctHolders : Value}
    (aHolders : PySem.W.nsIn K mainGlobals "holders" = some (some (.ref fHolders))) (lHolders : K.lookup fHolders = some ⟨ocHolders, odHolders, .func (PySem.W.fnOf "holders" "holders" (defArgs sHolders) (defBody sHolders) (defScope sHolders) .none kVHolders dcHolders pmHolders anHolders cdHolders ctHolders), slHolders⟩) (cHolders : PySem.W.codeIn K cdHolders "holders" = true) (kHolders : PySem.W.keepIn K (.ref fHolders) = true)
    {fAsked : Addr} {odAsked anAsked : Option Addr} {slAsked : Array (Option Value)} {ocAsked kVAsked dcAsked pmAsked cdAsked ctAsked : Value}
    (aAsked : PySem.W.nsIn K mainGlobals "asked_of_any" = some (some (.ref fAsked))) (lAsked : K.lookup fAsked = some ⟨ocAsked, odAsked, .func (PySem.W.fnOf "asked_of_any" "asked_of_any" (defArgs sAsked) (defBody sAsked) (defScope sAsked) .none kVAsked dcAsked pmAsked anAsked cdAsked ctAsked), slAsked⟩) (cAsked : PySem.W.codeIn K cdAsked "asked_of_any" = true) (kAsked : PySem.W.keepIn K (.ref fAsked) = true)
    {fTog : Addr} {odTog anTog : Option Addr} {slTog : Array (Option Value)} {ocTog kVTog dcTog pmTog cdTog ctTog : Value}
    (aTog : PySem.W.nsIn K mainGlobals "together_at_most" = some (some (.ref fTog))) (lTog : K.lookup fTog = some ⟨ocTog, odTog, .func (PySem.W.fnOf "together_at_most" "together_at_most" (defArgs sTog) (defBody sTog) (defScope sTog) .none kVTog dcTog pmTog anTog cdTog ctTog), slTog⟩) (cTog : PySem.W.codeIn K cdTog "together_at_most" = true) (kTog : PySem.W.keepIn K (.ref fTog) = true)
    {fUntil : Addr} {odUntil anUntil : Option Addr} {slUntil : Array (Option Value)} {ocUntil kVUntil dcUntil pmUntil cdUntil ctUntil : Value}
    (aUntil : PySem.W.nsIn K mainGlobals "deeds_until" = some (some (.ref fUntil))) (lUntil : K.lookup fUntil = some ⟨ocUntil, odUntil, .func (PySem.W.fnOf "deeds_until" "deeds_until" (defArgs sUntil) (defBody sUntil) (defScope sUntil) .none kVUntil dcUntil pmUntil anUntil cdUntil ctUntil), slUntil⟩) (cUntil : PySem.W.codeIn K cdUntil "deeds_until" = true) (kUntil : PySem.W.keepIn K (.ref fUntil) = true)
    {fTwo2 : Addr} {odTwo2 anTwo2 : Option Addr} {slTwo2 : Array (Option Value)} {ocTwo2 kVTwo2 dcTwo2 pmTwo2 cdTwo2 ctTwo2 : Value}
    (aTwo2 : PySem.W.nsIn K mainGlobals "run_of_two" = some (some (.ref fTwo2))) (lTwo2 : K.lookup fTwo2 = some ⟨ocTwo2, odTwo2, .func (PySem.W.fnOf "run_of_two" "run_of_two" (defArgs sTwo2) (defBody sTwo2) (defScope sTwo2) .none kVTwo2 dcTwo2 pmTwo2 anTwo2 cdTwo2 ctTwo2), slTwo2⟩) (cTwo2 : PySem.W.codeIn K cdTwo2 "run_of_two" = true) (kTwo2 : PySem.W.keepIn K (.ref fTwo2) = true)
    {fBroken : Addr} {odBroken anBroken : Option Addr} {slBroken : Array (Option Value)} {ocBroken kVBroken dcBroken pmBroken cdBroken ctBroken : Value}
    (aBroken : PySem.W.nsIn K mainGlobals "broken" = some (some (.ref fBroken))) (lBroken : K.lookup fBroken = some ⟨ocBroken, odBroken, .func (PySem.W.fnOf "broken" "broken" (defArgs sBroken) (defBody sBroken) (defScope sBroken) .none kVBroken dcBroken pmBroken anBroken cdBroken ctBroken), slBroken⟩) (cBroken : PySem.W.codeIn K cdBroken "broken" = true) (kBroken : PySem.W.keepIn K (.ref fBroken) = true)
    {fComes : Addr} {odComes anComes : Option Addr} {slComes : Array (Option Value)} {ocComes kVComes dcComes pmComes cdComes ctComes : Value}
    (aComes : PySem.W.nsIn K mainGlobals "comes" = some (some (.ref fComes))) (lComes : K.lookup fComes = some ⟨ocComes, odComes, .func (PySem.W.fnOf "comes" "comes" (defArgs sComes) (defBody sComes) (defScope sComes) .none kVComes dcComes pmComes anComes cdComes ctComes), slComes⟩) (cComes : PySem.W.codeIn K cdComes "comes" = true) (kComes : PySem.W.keepIn K (.ref fComes) = true)
    {fSb : Addr} {odSb anSb : Option Addr} {slSb : Array (Option Value)} {ocSb kVSb dcSb pmSb cdSb ctSb : Value}
    (aSb : PySem.W.nsIn K mainGlobals "state_between" = some (some (.ref fSb))) (lSb : K.lookup fSb = some ⟨ocSb, odSb, .func (PySem.W.fnOf "state_between" "state_between" (defArgs sSb) (defBody sSb) (defScope sSb) .none kVSb dcSb pmSb anSb cdSb ctSb), slSb⟩) (cSb : PySem.W.codeIn K cdSb "state_between" = true) (kSb : PySem.W.keepIn K (.ref fSb) = true)
    {fMState : Addr} {odMState anMState : Option Addr} {slMState : Array (Option Value)} {ocMState kVMState dcMState pmMState cdMState ctMState : Value}
    (aMState : PySem.W.findIn K (.ref C) "state" = some (some (.ref fMState))) (iMState : PySem.W.isFn K (.ref fMState) = true) (lMState : K.lookup fMState = some ⟨ocMState, odMState, .func (PySem.W.fnOf "state" "Store.state" (defArgs sMState) (defBody sMState) (defScope sMState) .none kVMState dcMState pmMState anMState cdMState ctMState), slMState⟩) (cMState : PySem.W.codeIn K cdMState "Store.state" = true) (kMState : PySem.W.keepIn K (.ref fMState) = true)
    {fMGoals : Addr} {odMGoals anMGoals : Option Addr} {slMGoals : Array (Option Value)} {ocMGoals kVMGoals dcMGoals pmMGoals cdMGoals ctMGoals : Value}
    (aMGoals : PySem.W.findIn K (.ref C) "goals" = some (some (.ref fMGoals))) (iMGoals : PySem.W.isFn K (.ref fMGoals) = true) (lMGoals : K.lookup fMGoals = some ⟨ocMGoals, odMGoals, .func (PySem.W.fnOf "goals" "Store.goals" (defArgs sMGoals) (defBody sMGoals) (defScope sMGoals) .none kVMGoals dcMGoals pmMGoals anMGoals cdMGoals ctMGoals), slMGoals⟩) (cMGoals : PySem.W.codeIn K cdMGoals "Store.goals" = true) (kMGoals : PySem.W.keepIn K (.ref fMGoals) = true)
    {fHas : Addr} {odHas anHas : Option Addr} {slHas : Array (Option Value)} {ocHas kVHas dcHas pmHas cdHas ctHas : Value}
    (aHas : PySem.W.nsIn K mainGlobals "has_something" = some (some (.ref fHas))) (lHas : K.lookup fHas = some ⟨ocHas, odHas, .func (PySem.W.fnOf "has_something" "has_something" (defArgs sHas) (defBody sHas) (defScope sHas) .none kVHas dcHas pmHas anHas cdHas ctHas), slHas⟩) (cHas : PySem.W.codeIn K cdHas "has_something" = true) (kHas : PySem.W.keepIn K (.ref fHas) = true)
    {fAre : Addr} {odAre anAre : Option Addr} {slAre : Array (Option Value)} {ocAre kVAre dcAre pmAre cdAre ctAre : Value}
    (aAre : PySem.W.nsIn K mainGlobals "are_two_holders" = some (some (.ref fAre))) (lAre : K.lookup fAre = some ⟨ocAre, odAre, .func (PySem.W.fnOf "are_two_holders" "are_two_holders" (defArgs sAre) (defBody sAre) (defScope sAre) .none kVAre dcAre pmAre anAre cdAre ctAre), slAre⟩) (cAre : PySem.W.codeIn K cdAre "are_two_holders" = true) (kAre : PySem.W.keepIn K (.ref fAre) = true)
    {fGive : Addr} {odGive anGive : Option Addr} {slGive : Array (Option Value)} {ocGive kVGive dcGive pmGive cdGive ctGive : Value}
    (aGive : PySem.W.nsIn K mainGlobals "may_give" = some (some (.ref fGive))) (lGive : K.lookup fGive = some ⟨ocGive, odGive, .func (PySem.W.fnOf "may_give" "may_give" (defArgs sGive) (defBody sGive) (defScope sGive) .none kVGive dcGive pmGive anGive cdGive ctGive), slGive⟩) (cGive : PySem.W.codeIn K cdGive "may_give" = true) (kGive : PySem.W.keepIn K (.ref fGive) = true)
    {fAfterD : Addr} {odAfterD anAfterD : Option Addr} {slAfterD : Array (Option Value)} {ocAfterD kVAfterD dcAfterD pmAfterD cdAfterD ctAfterD : Value}
    (aAfterD : PySem.W.nsIn K mainGlobals "after_deed" = some (some (.ref fAfterD))) (lAfterD : K.lookup fAfterD = some ⟨ocAfterD, odAfterD, .func (PySem.W.fnOf "after_deed" "after_deed" (defArgs sAfterD) (defBody sAfterD) (defScope sAfterD) .none kVAfterD dcAfterD pmAfterD anAfterD cdAfterD ctAfterD), slAfterD⟩) (cAfterD : PySem.W.codeIn K cdAfterD "after_deed" = true) (kAfterD : PySem.W.keepIn K (.ref fAfterD) = true)
    {fMGive : Addr} {odMGive anMGive : Option Addr} {slMGive : Array (Option Value)} {ocMGive kVMGive dcMGive pmMGive cdMGive ctMGive : Value}
    (aMGive : PySem.W.findIn K (.ref C) "give" = some (some (.ref fMGive))) (iMGive : PySem.W.isFn K (.ref fMGive) = true) (lMGive : K.lookup fMGive = some ⟨ocMGive, odMGive, .func (PySem.W.fnOf "give" "Store.give" (defArgs sMGive) (defBody sMGive) (defScope sMGive) .none kVMGive dcMGive pmMGive anMGive cdMGive ctMGive), slMGive⟩) (cMGive : PySem.W.codeIn K cdMGive "Store.give" = true) (kMGive : PySem.W.keepIn K (.ref fMGive) = true)
    {fMAim : Addr} {odMAim anMAim : Option Addr} {slMAim : Array (Option Value)} {ocMAim kVMAim dcMAim pmMAim cdMAim ctMAim : Value}
    (aMAim : PySem.W.findIn K (.ref C) "aim" = some (some (.ref fMAim))) (iMAim : PySem.W.isFn K (.ref fMAim) = true) (lMAim : K.lookup fMAim = some ⟨ocMAim, odMAim, .func (PySem.W.fnOf "aim" "Store.aim" (defArgs sMAim) (defBody sMAim) (defScope sMAim) .none kVMAim dcMAim pmMAim anMAim cdMAim ctMAim), slMAim⟩) (cMAim : PySem.W.codeIn K cdMAim "Store.aim" = true) (kMAim : PySem.W.keepIn K (.ref fMAim) = true)
    {fMBack : Addr} {odMBack anMBack : Option Addr} {slMBack : Array (Option Value)} {ocMBack kVMBack dcMBack pmMBack cdMBack ctMBack : Value}
    (aMBack : PySem.W.findIn K (.ref C) "back" = some (some (.ref fMBack))) (iMBack : PySem.W.isFn K (.ref fMBack) = true) (lMBack : K.lookup fMBack = some ⟨ocMBack, odMBack, .func (PySem.W.fnOf "back" "Store.back" (defArgs sMBack) (defBody sMBack) (defScope sMBack) .none kVMBack dcMBack pmMBack anMBack cdMBack ctMBack), slMBack⟩) (cMBack : PySem.W.codeIn K cdMBack "Store.back" = true) (kMBack : PySem.W.keepIn K (.ref fMBack) = true)
    {fMCalls : Addr} {odMCalls anMCalls : Option Addr} {slMCalls : Array (Option Value)} {ocMCalls kVMCalls dcMCalls pmMCalls cdMCalls ctMCalls : Value}
    (aMCalls : PySem.W.findIn K (.ref C) "calls" = some (some (.ref fMCalls))) (iMCalls : PySem.W.isFn K (.ref fMCalls) = true) (lMCalls : K.lookup fMCalls = some ⟨ocMCalls, odMCalls, .func (PySem.W.fnOf "calls" "Store.calls" (defArgs sMCalls) (defBody sMCalls) (defScope sMCalls) .none kVMCalls dcMCalls pmMCalls anMCalls cdMCalls ctMCalls), slMCalls⟩) (cMCalls : PySem.W.codeIn K cdMCalls "Store.calls" = true) (kMCalls : PySem.W.keepIn K (.ref fMCalls) = true)
    {fDeed : Addr} {odDeed anDeed : Option Addr} {slDeed : Array (Option Value)} {ocDeed kVDeed dcDeed pmDeed cdDeed ctDeed : Value}
    (aDeed : PySem.W.nsIn K mainGlobals "_law_deed" = some (some (.ref fDeed))) (lDeed : K.lookup fDeed = some ⟨ocDeed, odDeed, .func (PySem.W.fnOf "_law_deed" "_law_deed" (defArgs sDeed) (defBody sDeed) (defScope sDeed) .none kVDeed dcDeed pmDeed anDeed cdDeed ctDeed), slDeed⟩) (cDeed : PySem.W.codeIn K cdDeed "_law_deed" = true) (kDeed : PySem.W.keepIn K (.ref fDeed) = true)
    {fNext : Addr} {odNext anNext : Option Addr} {slNext : Array (Option Value)} {ocNext kVNext dcNext pmNext cdNext ctNext : Value}
    (aNext : PySem.W.nsIn K mainGlobals "_law_next" = some (some (.ref fNext))) (lNext : K.lookup fNext = some ⟨ocNext, odNext, .func (PySem.W.fnOf "_law_next" "_law_next" (defArgs sNext) (defBody sNext) (defScope sNext) .none kVNext dcNext pmNext anNext cdNext ctNext), slNext⟩) (cNext : PySem.W.codeIn K cdNext "_law_next" = true) (kNext : PySem.W.keepIn K (.ref fNext) = true)
    {fGl : Addr} {odGl anGl : Option Addr} {slGl : Array (Option Value)} {ocGl kVGl dcGl pmGl cdGl ctGl : Value}
    (aGl : PySem.W.nsIn K mainGlobals "_law_goal" = some (some (.ref fGl))) (lGl : K.lookup fGl = some ⟨ocGl, odGl, .func (PySem.W.fnOf "_law_goal" "_law_goal" (defArgs sGl) (defBody sGl) (defScope sGl) .none kVGl dcGl pmGl anGl cdGl ctGl), slGl⟩) (cGl : PySem.W.codeIn K cdGl "_law_goal" = true) (kGl : PySem.W.keepIn K (.ref fGl) = true)
    {fTurn : Addr} {odTurn anTurn : Option Addr} {slTurn : Array (Option Value)} {ocTurn kVTurn dcTurn pmTurn cdTurn ctTurn : Value}
    (aTurn : PySem.W.nsIn K mainGlobals "_law_turn" = some (some (.ref fTurn))) (lTurn : K.lookup fTurn = some ⟨ocTurn, odTurn, .func (PySem.W.fnOf "_law_turn" "_law_turn" (defArgs sTurn) (defBody sTurn) (defScope sTurn) .none kVTurn dcTurn pmTurn anTurn cdTurn ctTurn), slTurn⟩) (cTurn : PySem.W.codeIn K cdTurn "_law_turn" = true) (kTurn : PySem.W.keepIn K (.ref fTurn) = true)
    {fSta : Addr} {odSta anSta : Option Addr} {slSta : Array (Option Value)} {ocSta kVSta dcSta pmSta cdSta ctSta : Value}
    (aSta : PySem.W.nsIn K mainGlobals "_law_state" = some (some (.ref fSta))) (lSta : K.lookup fSta = some ⟨ocSta, odSta, .func (PySem.W.fnOf "_law_state" "_law_state" (defArgs sSta) (defBody sSta) (defScope sSta) .none kVSta dcSta pmSta anSta cdSta ctSta), slSta⟩) (cSta : PySem.W.codeIn K cdSta "_law_state" = true) (kSta : PySem.W.keepIn K (.ref fSta) = true)
    {fAll : Addr} {odAll anAll : Option Addr} {slAll : Array (Option Value)} {ocAll kVAll dcAll pmAll cdAll ctAll : Value}
    (aAll : PySem.W.nsIn K mainGlobals "_law_all_of" = some (some (.ref fAll))) (lAll : K.lookup fAll = some ⟨ocAll, odAll, .func (PySem.W.fnOf "_law_all_of" "_law_all_of" (defArgs sAll) (defBody sAll) (defScope sAll) .none kVAll dcAll pmAll anAll cdAll ctAll), slAll⟩) (cAll : PySem.W.codeIn K cdAll "_law_all_of" = true) (kAll : PySem.W.keepIn K (.ref fAll) = true)
    {fRight : Addr} {odRight anRight : Option Addr} {slRight : Array (Option Value)} {ocRight kVRight dcRight pmRight cdRight ctRight : Value}
    (aRight : PySem.W.nsIn K mainGlobals "_law_right" = some (some (.ref fRight))) (lRight : K.lookup fRight = some ⟨ocRight, odRight, .func (PySem.W.fnOf "_law_right" "_law_right" (defArgs sRight) (defBody sRight) (defScope sRight) .none kVRight dcRight pmRight anRight cdRight ctRight), slRight⟩) (cRight : PySem.W.codeIn K cdRight "_law_right" = true) (kRight : PySem.W.keepIn K (.ref fRight) = true)
    {fLaw : Addr} {odLaw anLaw : Option Addr} {slLaw : Array (Option Value)} {ocLaw kVLaw dcLaw pmLaw cdLaw ctLaw : Value}
    (aLaw : PySem.W.nsIn K mainGlobals "law" = some (some (.ref fLaw))) (lLaw : K.lookup fLaw = some ⟨ocLaw, odLaw, .func (PySem.W.fnOf "law" "law" (defArgs sLaw) (defBody sLaw) (defScope sLaw) .none kVLaw dcLaw pmLaw anLaw cdLaw ctLaw), slLaw⟩) (cLaw : PySem.W.codeIn K cdLaw "law" = true) (kLaw : PySem.W.keepIn K (.ref fLaw) = true)
    {tMOST_PLACES : Tok} (aMOST_PLACES : PySem.W.nsIn K mainGlobals "MOST_PLACES" = some (some (.int 12 tMOST_PLACES)))
    {tABOVE_THIRTY_FIGURES : Tok} (aABOVE_THIRTY_FIGURES : PySem.W.nsIn K mainGlobals "ABOVE_THIRTY_FIGURES" = some (some (.int (10 ^ 30) tABOVE_THIRTY_FIGURES)))
    {tMOST_STORED : Tok} (aMOST_STORED : PySem.W.nsIn K mainGlobals "MOST_STORED" = some (some (.int 100000 tMOST_STORED)))
    {tMOST_LETTERS : Tok} (aMOST_LETTERS : PySem.W.nsIn K mainGlobals "MOST_LETTERS" = some (some (.int 8 tMOST_LETTERS)))
    {tSMALL_LETTERS : Tok} (aSMALL_LETTERS : PySem.W.nsIn K mainGlobals "SMALL_LETTERS" = some (some (.str "abcdefghijklmnopqrstuvwxyz" tSMALL_LETTERS)))
    {tMOST_IN_WALK : Tok} (aMOST_IN_WALK : PySem.W.nsIn K mainGlobals "MOST_IN_WALK" = some (some (.int 100000 tMOST_IN_WALK)))
    (aC : PySem.W.nsIn K mainGlobals "Store" = some (some (.ref C)))
    (pgC : PySem.W.plainGet K C Str.empty = true)
    (hdC : PySem.W.hasDictIn K C = true)
    (poC : PySem.W.plainOver K C = true)
    (saC : PySem.W.findIn K (.ref C) "__setattr__" = some (some (.builtin "object.__setattr__")))
    (mkC : PySem.W.makesIn K C = true)
    (kcC : PySem.W.keepIn K (.ref C) = true)
    (nSC : PySem.W.findIn K (.ref C) "stood" = some none)
    (nMC : PySem.W.findIn K (.ref C) "made" = some none)
    (nAC : PySem.W.findIn K (.ref C) "aims" = some none)
    (z_abs : PySem.W.nsIn K mainGlobals "abs" = some none)
    (z_all : PySem.W.nsIn K mainGlobals "all" = some none)
    (z_any : PySem.W.nsIn K mainGlobals "any" = some none)
    (z_bool : PySem.W.nsIn K mainGlobals "bool" = some none)
    (z_enumerate : PySem.W.nsIn K mainGlobals "enumerate" = some none)
    (z_int : PySem.W.nsIn K mainGlobals "int" = some none)
    (z_isinstance : PySem.W.nsIn K mainGlobals "isinstance" = some none)
    (z_len : PySem.W.nsIn K mainGlobals "len" = some none)
    (z_list : PySem.W.nsIn K mainGlobals "list" = some none)
    (z_max : PySem.W.nsIn K mainGlobals "max" = some none)
    (z_min : PySem.W.nsIn K mainGlobals "min" = some none)
    (z_range : PySem.W.nsIn K mainGlobals "range" = some none)
    (z_repr : PySem.W.nsIn K mainGlobals "repr" = some none)
    (z_set : PySem.W.nsIn K mainGlobals "set" = some none)
    (z_sorted : PySem.W.nsIn K mainGlobals "sorted" = some none)
    (z_str : PySem.W.nsIn K mainGlobals "str" = some none)
    (z_sum : PySem.W.nsIn K mainGlobals "sum" = some none)
    (z_tuple : PySem.W.nsIn K mainGlobals "tuple" = some none)
    (z_zip : PySem.W.nsIn K mainGlobals "zip" = some none)
    : ∃ (fd : FuncData) (cs : List (Addr × Addr)) (sp : Sp), (∀ p ∈ cs, h.get? p.2 = some tabO) ∧ (∀ p ∈ cs, K.lookup p.2 = none) ∧ (∀ p ∈ cs, PySem.W.CodeHd h p.1 p.2) ∧ (∀ (s : Shared) (v : Value), BindsTo s fd ⟨[v], []⟩ [("_law_script", v)]) ∧
      (∀ (H : Hp) (a : Addr) (ns : List Int), ns.length ≤ 63 → (∀ p ∈ cs, H p.2 = some (.tbl #[])) → SqL K H a (ns.map V.int) → sp [.ref a] H (fun v _ => v = .bl true) fun _ _ _ => False) ∧
      ∀ base : Heap, K.In base → base.Ns mainGlobals mg → SysD base → (∀ p ∈ cs, TabB base mg p.1 p.2) → FnG l.prog w K mg base 13 fa fd ["_law_script"] sp := by
  have e := hfa.symm.trans (PySem.W.mg_of X G aLaw)
  cases e
  have FBox := fun_mk (st := sBox) lBox cBox kBox
  have bBox := FBox.binds (ps := ["_law_script", "_law_k"]) fun _ _ _ _ _ _ us hl => match us, hl with | [_, _], _ => rfl
  have gBox := PySem.W.mg_of X G aBox
  have FTake := fun_mk (st := sTake) lTake cTake kTake
  have bTake := FTake.binds (ps := ["_law_box_here", "_law_many"]) fun _ _ _ _ _ _ us hl => match us, hl with | [_, _], _ => rfl
  have gTake := PySem.W.mg_of X G aTake
  have FOf := fun_mk (st := sOf) lOf cOf kOf
  have bOf := FOf.binds (ps := ["_law_box_here", "_law_some"]) fun _ _ _ _ _ _ us hl => match us, hl with | [_, _], _ => rfl
  have gOf := PySem.W.mg_of X G aOf
  have FSplit := fun_mk (st := sSplit) lSplit cSplit kSplit
  have bSplit := FSplit.binds (ps := ["_law_box_here", "_law_total", "_law_many"]) fun _ _ _ _ _ _ us hl => match us, hl with | [_, _, _], _ => rfl
  have gSplit := PySem.W.mg_of X G aSplit
  have FPlaces := fun_mk (st := sPlaces) lPlaces cPlaces kPlaces
  have bPlaces := FPlaces.binds (ps := ["_law_box_here", "_law_amounts", "_law_nothing"]) fun _ _ _ _ _ _ us hl => match us, hl with | [_, _, _], _ => rfl
  have gPlaces := PySem.W.mg_of X G aPlaces
  have FLine := fun_mk (st := sLine) lLine cLine kLine
  have bLine := FLine.binds (ps := ["_law_box_here", "_law_least", "_law_greatest", "_law_most"]) fun _ _ _ _ _ _ us hl => match us, hl with | [_, _, _, _], _ => rfl
  have gLine := PySem.W.mg_of X G aLine
  have FWhole := fun_mk (st := sWhole) lWhole cWhole kWhole
  have bWhole := FWhole.binds (ps := ["thing"]) fun _ _ _ _ _ _ us hl => match us, hl with | [_], _ => rfl
  have gWhole := PySem.W.mg_of X G aWhole
  have FRow := fun_mk (st := sRow) lRow cRow kRow
  have bRow := FRow.binds (ps := ["thing"]) fun _ _ _ _ _ _ us hl => match us, hl with | [_], _ => rfl
  have gRow := PySem.W.mg_of X G aRow
  have FInit := fun_mk (st := sInit) lInit cInit kInit
  have bInit := FInit.binds (ps := ["self", "row"]) fun _ _ _ _ _ _ us hl => match us, hl with | [_, _], _ => rfl
  have mInit : Meth K C "__init__" fInit := ⟨aInit, iInit, kInit⟩
  have FMRow := fun_mk (st := sMRow) lMRow cMRow kMRow
  have bMRow := FMRow.binds (ps := ["self"]) fun _ _ _ _ _ _ us hl => match us, hl with | [_], _ => rfl
  have mMRow : Meth K C "row" fMRow := ⟨aMRow, iMRow, kMRow⟩
  have FOs := fun_mk (st := sOs) lOs cOs kOs
  have bOs := FOs.binds (ps := ["text", "signs"]) fun _ _ _ _ _ _ us hl => match us, hl with | [_, _], _ => rfl
  have gOs := PySem.W.mg_of X G aOs
  have FNa := fun_mk (st := sNa) lNa cNa kNa
  have bNa := FNa.binds (ps := ["thing"]) fun _ _ _ _ _ _ us hl => match us, hl with | [_], _ => rfl
  have gNa := PySem.W.mg_of X G aNa
  have FTwosIn := fun_mk (st := sTwosIn) lTwosIn cTwosIn kTwosIn
  have bTwosIn := FTwosIn.binds (ps := ["n"]) fun _ _ _ _ _ _ us hl => match us, hl with | [_], _ => rfl
  have gTwosIn := PySem.W.mg_of X G aTwosIn
  have FCommon := fun_mk (st := sCommon) lCommon cCommon kCommon
  have bCommon := FCommon.binds (ps := ["a", "b"]) fun _ _ _ _ _ _ us hl => match us, hl with | [_, _], _ => rfl
  have gCommon := PySem.W.mg_of X G aCommon
  have FUnit := fun_mk (st := sUnit) lUnit cUnit kUnit
  have bUnit := FUnit.binds (ps := ["row"]) fun _ _ _ _ _ _ us hl => match us, hl with | [_], _ => rfl
  have gUnit := PySem.W.mg_of X G aUnit
  have FTwos := fun_mk (st := sTwos) lTwos cTwos kTwos
  have bTwos := FTwos.binds (ps := ["row"]) fun _ _ _ _ _ _ us hl => match us, hl with | [_], _ => rfl
  have gTwos := PySem.W.mg_of X G aTwos
  have FHfn := fun_mk (st := sHfn) lHfn cHfn kHfn
  have bHfn := FHfn.binds (ps := ["row", "other"]) fun _ _ _ _ _ _ us hl => match us, hl with | [_, _], _ => rfl
  have gHfn := PySem.W.mg_of X G aHfn
  have FOddPart := fun_mk (st := sOddPart) lOddPart cOddPart kOddPart
  have bOddPart := FOddPart.binds (ps := ["n"]) fun _ _ _ _ _ _ us hl => match us, hl with | [_], _ => rfl
  have gOddPart := PySem.W.mg_of X G aOddPart
  have FMeasure := fun_mk (st := sMeasure) lMeasure cMeasure kMeasure
  have bMeasure := FMeasure.binds (ps := ["row"]) fun _ _ _ _ _ _ us hl => match us, hl with | [_], _ => rfl
  have gMeasure := PySem.W.mg_of X G aMeasure
  have FOddOnes := fun_mk (st := sOddOnes) lOddOnes cOddOnes kOddOnes
  have bOddOnes := FOddOnes.binds (ps := ["row"]) fun _ _ _ _ _ _ us hl => match us, hl with | [_], _ => rfl
  have gOddOnes := PySem.W.mg_of X G aOddOnes
  have FHolders := fun_mk (st := sHolders) lHolders cHolders kHolders
  have bHolders := FHolders.binds (ps := ["row"]) fun _ _ _ _ _ _ us hl => match us, hl with | [_], _ => rfl
  have gHolders := PySem.W.mg_of X G aHolders
  have FAsked := fun_mk (st := sAsked) lAsked cAsked kAsked
  have bAsked := FAsked.binds (ps := ["row", "other"]) fun _ _ _ _ _ _ us hl => match us, hl with | [_, _], _ => rfl
  have gAsked := PySem.W.mg_of X G aAsked
  have FTog := fun_mk (st := sTog) lTog cTog kTog
  have bTog := FTog.binds (ps := ["row", "i", "j", "most"]) fun _ _ _ _ _ _ us hl => match us, hl with | [_, _, _, _], _ => rfl
  have gTog := PySem.W.mg_of X G aTog
  have FUntil := fun_mk (st := sUntil) lUntil cUntil kUntil
  have bUntil := FUntil.binds (ps := ["row", "i", "j", "amount"]) fun _ _ _ _ _ _ us hl => match us, hl with | [_, _, _, _], _ => rfl
  have gUntil := PySem.W.mg_of X G aUntil
  have FTwo2 := fun_mk (st := sTwo2) lTwo2 cTwo2 kTwo2
  have bTwo2 := FTwo2.binds (ps := ["row", "other"]) fun _ _ _ _ _ _ us hl => match us, hl with | [_, _], _ => rfl
  have gTwo2 := PySem.W.mg_of X G aTwo2
  have FBroken := fun_mk (st := sBroken) lBroken cBroken kBroken
  have bBroken := FBroken.binds (ps := ["row", "other"]) fun _ _ _ _ _ _ us hl => match us, hl with | [_, _], _ => rfl
  have gBroken := PySem.W.mg_of X G aBroken
  have FComes := fun_mk (st := sComes) lComes cComes kComes
  have bComes := FComes.binds (ps := ["row", "other"]) fun _ _ _ _ _ _ us hl => match us, hl with | [_, _], _ => rfl
  have gComes := PySem.W.mg_of X G aComes
  have FSb := fun_mk (st := sSb) lSb cSb kSb
  have bSb := FSb.binds (ps := ["row", "goal"]) fun _ _ _ _ _ _ us hl => match us, hl with | [_, _], _ => rfl
  have gSb := PySem.W.mg_of X G aSb
  have FMState := fun_mk (st := sMState) lMState cMState kMState
  have bMState := FMState.binds (ps := ["self", "name"]) fun _ _ _ _ _ _ us hl => match us, hl with | [_, _], _ => rfl
  have mMState : Meth K C "state" fMState := ⟨aMState, iMState, kMState⟩
  have FMGoals := fun_mk (st := sMGoals) lMGoals cMGoals kMGoals
  have bMGoals := FMGoals.binds (ps := ["self"]) fun _ _ _ _ _ _ us hl => match us, hl with | [_], _ => rfl
  have mMGoals : Meth K C "goals" fMGoals := ⟨aMGoals, iMGoals, kMGoals⟩
  have FHas := fun_mk (st := sHas) lHas cHas kHas
  have bHas := FHas.binds (ps := ["row", "place"]) fun _ _ _ _ _ _ us hl => match us, hl with | [_, _], _ => rfl
  have gHas := PySem.W.mg_of X G aHas
  have FAre := fun_mk (st := sAre) lAre cAre kAre
  have bAre := FAre.binds (ps := ["row", "i", "j"]) fun _ _ _ _ _ _ us hl => match us, hl with | [_, _, _], _ => rfl
  have gAre := PySem.W.mg_of X G aAre
  have FGive := fun_mk (st := sGive) lGive cGive kGive
  have bGive := FGive.binds (ps := ["row", "i", "j"]) fun _ _ _ _ _ _ us hl => match us, hl with | [_, _, _], _ => rfl
  have gGive := PySem.W.mg_of X G aGive
  have FAfterD := fun_mk (st := sAfterD) lAfterD cAfterD kAfterD
  have bAfterD := FAfterD.binds (ps := ["row", "i", "j"]) fun _ _ _ _ _ _ us hl => match us, hl with | [_, _, _], _ => rfl
  have gAfterD := PySem.W.mg_of X G aAfterD
  have FMGive := fun_mk (st := sMGive) lMGive cMGive kMGive
  have bMGive := FMGive.binds (ps := ["self", "i", "j"]) fun _ _ _ _ _ _ us hl => match us, hl with | [_, _, _], _ => rfl
  have mMGive : Meth K C "give" fMGive := ⟨aMGive, iMGive, kMGive⟩
  have FMAim := fun_mk (st := sMAim) lMAim cMAim kMAim
  have bMAim := FMAim.binds (ps := ["self", "name", "other"]) fun _ _ _ _ _ _ us hl => match us, hl with | [_, _, _], _ => rfl
  have mMAim : Meth K C "aim" fMAim := ⟨aMAim, iMAim, kMAim⟩
  have FMBack := fun_mk (st := sMBack) lMBack cMBack kMBack
  have bMBack := FMBack.binds (ps := ["self"]) fun _ _ _ _ _ _ us hl => match us, hl with | [_], _ => rfl
  have mMBack : Meth K C "back" fMBack := ⟨aMBack, iMBack, kMBack⟩
  have FMCalls := fun_mk (st := sMCalls) lMCalls cMCalls kMCalls
  have bMCalls := FMCalls.binds (ps := ["self"]) fun _ _ _ _ _ _ us hl => match us, hl with | [_], _ => rfl
  have mMCalls : Meth K C "calls" fMCalls := ⟨aMCalls, iMCalls, kMCalls⟩
  have FDeed := fun_mk (st := sDeed) lDeed cDeed kDeed
  have bDeed := FDeed.binds (ps := ["_law_row_here", "_law_i", "_law_j"]) fun _ _ _ _ _ _ us hl => match us, hl with | [_, _, _], _ => rfl
  have gDeed := PySem.W.mg_of X G aDeed
  have FNext := fun_mk (st := sNext) lNext cNext kNext
  have bNext := FNext.binds (ps := ["_law_row_here"]) fun _ _ _ _ _ _ us hl => match us, hl with | [_], _ => rfl
  have gNext := PySem.W.mg_of X G aNext
  have FGl := fun_mk (st := sGl) lGl cGl kGl
  have bGl := FGl.binds (ps := ["_law_box_here", "_law_row_here", "_law_some"]) fun _ _ _ _ _ _ us hl => match us, hl with | [_, _, _], _ => rfl
  have gGl := PySem.W.mg_of X G aGl
  have FTurn := fun_mk (st := sTurn) lTurn cTurn kTurn
  have bTurn := FTurn.binds (ps := ["_law_box_here", "_law_store", "_law_goals", "_law_lost", "_law_there"]) fun _ _ _ _ _ _ us hl => match us, hl with | [_, _, _, _, _], _ => rfl
  have gTurn := PySem.W.mg_of X G aTurn
  have FSta := fun_mk (st := sSta) lSta cSta kSta
  have bSta := FSta.binds (ps := ["_law_row_here", "_law_goal_here", "_law_comes_here"]) fun _ _ _ _ _ _ us hl => match us, hl with | [_, _, _], _ => rfl
  have gSta := PySem.W.mg_of X G aSta
  have FAll := fun_mk (st := sAll) lAll cAll kAll
  have bAll := FAll.binds (ps := ["_law_row_here"]) fun _ _ _ _ _ _ us hl => match us, hl with | [_], _ => rfl
  have gAll := PySem.W.mg_of X G aAll
  have FRight := fun_mk (st := sRight) lRight cRight kRight
  have bRight := FRight.binds (ps := ["_law_box_here"]) fun _ _ _ _ _ _ us hl => match us, hl with | [_], _ => rfl
  have gRight := PySem.W.mg_of X G aRight
  have FLaw := fun_mk (st := sLaw) lLaw cLaw kLaw
  have gMOST_PLACES := PySem.W.mg_of X G aMOST_PLACES
  have gABOVE_THIRTY_FIGURES := PySem.W.mg_of X G aABOVE_THIRTY_FIGURES
  have gMOST_STORED := PySem.W.mg_of X G aMOST_STORED
  have gMOST_LETTERS := PySem.W.mg_of X G aMOST_LETTERS
  have gSMALL_LETTERS := PySem.W.mg_of X G aSMALL_LETTERS
  have gMOST_IN_WALK := PySem.W.mg_of X G aMOST_IN_WALK
  have gC := PySem.W.mg_of X G aC
  have m_abs := PySem.W.mg_none_of X G z_abs
  have m_all := PySem.W.mg_none_of X G z_all
  have m_any := PySem.W.mg_none_of X G z_any
  have m_bool := PySem.W.mg_none_of X G z_bool
  have m_enumerate := PySem.W.mg_none_of X G z_enumerate
  have m_int := PySem.W.mg_none_of X G z_int
  have m_isinstance := PySem.W.mg_none_of X G z_isinstance
  have m_len := PySem.W.mg_none_of X G z_len
  have m_list := PySem.W.mg_none_of X G z_list
  have m_max := PySem.W.mg_none_of X G z_max
  have m_min := PySem.W.mg_none_of X G z_min
  have m_range := PySem.W.mg_none_of X G z_range
  have m_repr := PySem.W.mg_none_of X G z_repr
  have m_set := PySem.W.mg_none_of X G z_set
  have m_sorted := PySem.W.mg_none_of X G z_sorted
  have m_str := PySem.W.mg_none_of X G z_str
  have m_sum := PySem.W.mg_none_of X G z_sum
  have m_tuple := PySem.W.mg_none_of X G z_tuple
  have m_zip := PySem.W.mg_none_of X G z_zip
  refine ⟨PySem.W.fnOf "law" "law" (defArgs sLaw) (defBody sLaw) (defScope sLaw) .none kVLaw dcLaw pmLaw anLaw cdLaw ctLaw, [], spLaw K , (fun _ z => nomatch z), (fun _ z => nomatch z), (fun _ z => nomatch z), fun s v => .of_eq rfl, fun H a ns hl hT hS => ⟨a, ns, rfl, hS, hl, fun _ => rfl⟩, fun base _ _ sys tb => ?_⟩
  have ST : StT K C := ⟨⟨pgC, hdC, poC, saC⟩, nSC, nMC, nAC⟩
  have MK : Mk K C fInit := ⟨mkC, aInit, iInit, kcC⟩
  have GBox := ok_box (P := l.prog) (w := w) (mg := mg) (base := base) (k := 0) FBox m_len m_abs m_int
  have GTake := ok_take (P := l.prog) (w := w) (mg := mg) (base := base) (k := 0) FTake
  have GOf := ok_of (P := l.prog) (w := w) (mg := mg) (base := base) (k := 0) FOf FTake bTake gTake m_len
  have GSplit := ok_split (P := l.prog) (w := w) (mg := mg) (base := base) (k := 0) FSplit FTake bTake gTake m_range
  have GPlaces := ok_places (P := l.prog) (w := w) (mg := mg) (base := base) (k := 0) FPlaces FTake bTake gTake m_len m_list m_tuple
  have GLine := ok_line (P := l.prog) (w := w) (mg := mg) (base := base) (k := 0) FLine FTake bTake gTake FOf bOf gOf FSplit bSplit gSplit GSplit FPlaces bPlaces gPlaces GPlaces m_len m_max
  have GWhole := ok_whole (P := l.prog) (w := w) (mg := mg) (base := base) (k := 0) FWhole m_isinstance m_int m_bool
  have GRow := ok_row (P := l.prog) (w := w) (mg := mg) (base := base) (k := 0) FRow FWhole bWhole gWhole gMOST_PLACES gABOVE_THIRTY_FIGURES m_isinstance m_int m_bool m_tuple m_all m_sum m_len
  have GInit := ok_init (P := l.prog) (w := w) (mg := mg) (base := base) (k := 0) FInit ST FRow bRow gRow GRow gMOST_STORED m_sum
  have GMRow := ok_mrow (P := l.prog) (w := w) (mg := mg) (base := base) (k := 0) FMRow ST
  have GOs := ok_os (P := l.prog) (w := w) (mg := mg) (base := base) (k := 0) FOs m_all
  have GNa := ok_na (P := l.prog) (w := w) (mg := mg) (base := base) (k := 0) FNa FOs bOs gOs gMOST_LETTERS gSMALL_LETTERS m_all m_len m_isinstance m_str
  have GTwosIn := ok_twosIn (P := l.prog) (w := w) (mg := mg) (base := base) (k := 0) FTwosIn
  have GCommon := ok_common (P := l.prog) (w := w) (mg := mg) (base := base) (k := 0) FCommon
  have GUnit := ok_unit (P := l.prog) (w := w) (mg := mg) (base := base) (k := 0) FUnit FCommon bCommon gCommon
  have GTwos := ok_twos (P := l.prog) (w := w) (mg := mg) (base := base) (k := 0) FTwos FTwosIn bTwosIn gTwosIn GTwosIn FUnit bUnit gUnit GUnit
  have GHfn := ok_hfn (P := l.prog) (w := w) (mg := mg) (base := base) (k := 0) FHfn m_any m_zip
  have GOddPart := ok_oddPart (P := l.prog) (w := w) (mg := mg) (base := base) (k := 0) FOddPart FTwosIn bTwosIn gTwosIn
  have GMeasure := ok_measure (P := l.prog) (w := w) (mg := mg) (base := base) (k := 0) FMeasure FOddPart bOddPart gOddPart GOddPart FUnit bUnit gUnit GUnit
  have GOddOnes := ok_oddOnes (P := l.prog) (w := w) (mg := mg) (base := base) (k := 0) FOddOnes FTwosIn bTwosIn gTwosIn GTwosIn FTwos bTwos gTwos GTwos m_len
  have GHolders := ok_holders (P := l.prog) (w := w) (mg := mg) (base := base) (k := 0) FHolders m_tuple m_enumerate
  have GAsked := ok_asked (P := l.prog) (w := w) (mg := mg) (base := base) (k := 0) FAsked FTwos bTwos gTwos GTwos FHfn bHfn gHfn GHfn FMeasure bMeasure gMeasure GMeasure FOddOnes bOddOnes gOddOnes GOddOnes FHolders bHolders gHolders GHolders m_sum m_len
  have GTog := ok_tog (P := l.prog) (w := w) (mg := mg) (base := base) (k := 0) FTog
  have GUntil := ok_until (P := l.prog) (w := w) (mg := mg) (base := base) (k := 0) FUntil FTog bTog gTog gMOST_IN_WALK m_range
  have GTwo2 := ok_two2 (P := l.prog) (w := w) (mg := mg) (base := base) (k := 0) FTwo2 FHolders bHolders gHolders GHolders FUntil bUntil gUntil GUntil
  have GBroken := ok_broken (P := l.prog) (w := w) (mg := mg) (base := base) (k := 0) FBroken FAsked bAsked gAsked GAsked FHolders bHolders gHolders GHolders FTwo2 bTwo2 gTwo2 GTwo2 m_len m_tuple
  have GComes := ok_comes (P := l.prog) (w := w) (mg := mg) (base := base) (k := 0) FComes FBroken bBroken gBroken GBroken
  have GSb := ok_sb (P := l.prog) (w := w) (mg := mg) (base := base) (k := 0) FSb FComes bComes gComes GComes
  have GMState := ok_mstate (P := l.prog) (w := w) (mg := mg) (base := base) (k := 0) FMState ST FMRow bMRow mMRow FNa bNa gNa GNa FSb bSb gSb GSb
  have GMGoals := ok_mgoals (P := l.prog) (w := w) (mg := mg) (base := base) (k := 0) FMGoals ST FMState bMState mMState GMState m_tuple m_sorted
  have GHas := ok_has (P := l.prog) (w := w) (mg := mg) (base := base) (k := 0) FHas FWhole bWhole gWhole m_isinstance m_int m_bool m_len
  have GAre := ok_are (P := l.prog) (w := w) (mg := mg) (base := base) (k := 0) FAre FHas bHas gHas GHas
  have GGive := ok_give (P := l.prog) (w := w) (mg := mg) (base := base) (k := 0) FGive FAre bAre gAre GAre
  have GAfterD := ok_afterD (P := l.prog) (w := w) (mg := mg) (base := base) (k := 0) FAfterD FGive bGive gGive GGive m_list m_tuple
  have GMGive := ok_mgive (P := l.prog) (w := w) (mg := mg) (base := base) (k := 0) FMGive ST FMRow bMRow mMRow FAfterD bAfterD gAfterD GAfterD
  have GMAim := ok_maim (P := l.prog) (w := w) (mg := mg) (base := base) (k := 0) FMAim ST FMRow bMRow mMRow FNa bNa gNa GNa FRow bRow gRow GRow m_len
  have GMBack := ok_mback (P := l.prog) (w := w) (mg := mg) (base := base) (k := 0) FMBack ST
  have GMCalls := ok_mcalls (P := l.prog) (w := w) (mg := mg) (base := base) (k := 0) FMCalls ST m_len
  have GDeed := ok_deedL (P := l.prog) (w := w) (mg := mg) (base := base) (k := 0) FDeed m_list m_tuple
  have GNext := ok_next (P := l.prog) (w := w) (mg := mg) (base := base) (k := 0) FNext FDeed bDeed gDeed GDeed m_len m_range
  have GGl := ok_gl (P := l.prog) (w := w) (mg := mg) (base := base) (k := 0) FGl FTake bTake gTake FOf bOf gOf FSplit bSplit gSplit m_len m_sum m_int m_range m_tuple
  have GTurn := ok_turn (P := l.prog) (w := w) (mg := mg) (base := base) (k := 0) FTurn FTake bTake gTake FOf bOf gOf ST FMRow bMRow mMRow FMGive bMGive mMGive GMGive FMAim bMAim mMAim GMAim FMBack bMBack mMBack FMCalls bMCalls mMCalls FNext bNext gNext GNext FGl bGl gGl GGl m_len m_range m_sorted m_set
  have GSta := ok_sta (P := l.prog) (w := w) (mg := mg) (base := base) (k := 0) FSta
  have GAll := ok_all (P := l.prog) (w := w) (mg := mg) (base := base) (k := 0) FAll FNext bNext gNext GNext
  have GRight := ok_right (P := l.prog) (w := w) (mg := mg) (base := base) (k := 0) sys FRight FTake bTake gTake FLine bLine gLine GLine ST MK gC FInit bInit GInit FMRow bMRow mMRow FMGoals bMGoals mMGoals GMGoals FMState bMState mMState GMState FTurn bTurn gTurn GTurn FSta bSta gSta FAll bAll gAll GAll m_len m_range m_sum m_sorted m_tuple m_repr
  exact ok_law (k := 0) FLaw FBox bBox gBox GBox FRight bRight gRight GRight m_len m_min m_max m_range m_all
end K56
open PySem PySem.W PyProof.Rows
set_option maxHeartbeats 0 in
theorem PySem.Challenge.cw_matchgift_k56_whole_goals_met_open_lost_holds : PySem.Challenge.rw_matchgift_k56_whole_goals_met_open_lost.Holds := by
  w_on; o_law; k_head; (case hw => w_witness2)
  k_fill
  refine MG.walkGT (l := PySem.Challenge.rw_matchgift_k56_whole_goals_met_open_lost) (n := 63) (k := 13) (x := "_law_script") rfl (by decide) rfl ⟨rfl, by decide, by decide⟩ (by decide +kernel) (fun w h Y => PySem.W.kIn_of Y) ?F
  case F =>
    intro w mg fa h Y KX G hmg
    refine' K56.all_mk KX G hmg ?aBox ?lBox ?cBox ?kBox ?aTake ?lTake ?cTake ?kTake ?aOf ?lOf ?cOf ?kOf ?aSplit ?lSplit ?cSplit ?kSplit ?aPlaces ?lPlaces ?cPlaces ?kPlaces ?aLine ?lLine ?cLine ?kLine ?aWhole ?lWhole ?cWhole ?kWhole ?aRow ?lRow ?cRow ?kRow ?aInit ?iInit ?lInit ?cInit ?kInit ?aMRow ?iMRow ?lMRow ?cMRow ?kMRow ?aOs ?lOs ?cOs ?kOs ?aNa ?lNa ?cNa ?kNa ?aTwosIn ?lTwosIn ?cTwosIn ?kTwosIn ?aCommon ?lCommon ?cCommon ?kCommon ?aUnit ?lUnit ?cUnit ?kUnit ?aTwos ?lTwos ?cTwos ?kTwos ?aHfn ?lHfn ?cHfn ?kHfn ?aOddPart ?lOddPart ?cOddPart ?kOddPart ?aMeasure ?lMeasure ?cMeasure ?kMeasure ?aOddOnes ?lOddOnes ?cOddOnes ?kOddOnes ?aHolders ?lHolders ?cHolders ?kHolders ?aAsked ?lAsked ?cAsked ?kAsked ?aTog ?lTog ?cTog ?kTog ?aUntil ?lUntil ?cUntil ?kUntil ?aTwo2 ?lTwo2 ?cTwo2 ?kTwo2 ?aBroken ?lBroken ?cBroken ?kBroken ?aComes ?lComes ?cComes ?kComes ?aSb ?lSb ?cSb ?kSb ?aMState ?iMState ?lMState ?cMState ?kMState ?aMGoals ?iMGoals ?lMGoals ?cMGoals ?kMGoals ?aHas ?lHas ?cHas ?kHas ?aAre ?lAre ?cAre ?kAre ?aGive ?lGive ?cGive ?kGive ?aAfterD ?lAfterD ?cAfterD ?kAfterD ?aMGive ?iMGive ?lMGive ?cMGive ?kMGive ?aMAim ?iMAim ?lMAim ?cMAim ?kMAim ?aMBack ?iMBack ?lMBack ?cMBack ?kMBack ?aMCalls ?iMCalls ?lMCalls ?cMCalls ?kMCalls ?aDeed ?lDeed ?cDeed ?kDeed ?aNext ?lNext ?cNext ?kNext ?aGl ?lGl ?cGl ?kGl ?aTurn ?lTurn ?cTurn ?kTurn ?aSta ?lSta ?cSta ?kSta ?aAll ?lAll ?cAll ?kAll ?aRight ?lRight ?cRight ?kRight ?aLaw ?lLaw ?cLaw ?kLaw ?aMOST_PLACES ?aABOVE_THIRTY_FIGURES ?aMOST_STORED ?aMOST_LETTERS ?aSMALL_LETTERS ?aMOST_IN_WALK ?aC ?pgC ?hdC ?poC ?saC ?mkC ?kcC ?nSC ?nMC ?nAC ?z_abs ?z_all ?z_any ?z_bool ?z_enumerate ?z_int ?z_isinstance ?z_len ?z_list ?z_max ?z_min ?z_range ?z_repr ?z_set ?z_sorted ?z_str ?z_sum ?z_tuple ?z_zip
    (case aC => k_is); (case aBox => k_is); (case lBox => k_is); (case cBox => k_is); (case kBox => k_is); (case aTake => k_is); (case lTake => k_is); (case cTake => k_is); (case kTake => k_is); (case aOf => k_is); (case lOf => k_is); (case cOf => k_is); (case kOf => k_is); (case aSplit => k_is); (case lSplit => k_is); (case cSplit => k_is); (case kSplit => k_is); (case aPlaces => k_is); (case lPlaces => k_is); (case cPlaces => k_is); (case kPlaces => k_is); (case aLine => k_is); (case lLine => k_is); (case cLine => k_is); (case kLine => k_is); (case aWhole => k_is); (case lWhole => k_is); (case cWhole => k_is); (case kWhole => k_is); (case aRow => k_is); (case lRow => k_is); (case cRow => k_is); (case kRow => k_is); (case aInit => k_is); (case iInit => k_is); (case lInit => k_is); (case cInit => k_is); (case kInit => k_is); (case aMRow => k_is); (case iMRow => k_is); (case lMRow => k_is); (case cMRow => k_is); (case kMRow => k_is); (case aOs => k_is); (case lOs => k_is); (case cOs => k_is); (case kOs => k_is); (case aNa => k_is); (case lNa => k_is); (case cNa => k_is); (case kNa => k_is); (case aTwosIn => k_is); (case lTwosIn => k_is); (case cTwosIn => k_is); (case kTwosIn => k_is); (case aCommon => k_is); (case lCommon => k_is); (case cCommon => k_is); (case kCommon => k_is); (case aUnit => k_is); (case lUnit => k_is); (case cUnit => k_is); (case kUnit => k_is); (case aTwos => k_is); (case lTwos => k_is); (case cTwos => k_is); (case kTwos => k_is); (case aHfn => k_is); (case lHfn => k_is); (case cHfn => k_is); (case kHfn => k_is); (case aOddPart => k_is); (case lOddPart => k_is); (case cOddPart => k_is); (case kOddPart => k_is); (case aMeasure => k_is); (case lMeasure => k_is); (case cMeasure => k_is); (case kMeasure => k_is); (case aOddOnes => k_is); (case lOddOnes => k_is); (case cOddOnes => k_is); (case kOddOnes => k_is); (case aHolders => k_is); (case lHolders => k_is); (case cHolders => k_is); (case kHolders => k_is); (case aAsked => k_is); (case lAsked => k_is); (case cAsked => k_is); (case kAsked => k_is); (case aTog => k_is); (case lTog => k_is); (case cTog => k_is); (case kTog => k_is); (case aUntil => k_is); (case lUntil => k_is); (case cUntil => k_is); (case kUntil => k_is); (case aTwo2 => k_is); (case lTwo2 => k_is); (case cTwo2 => k_is); (case kTwo2 => k_is); (case aBroken => k_is); (case lBroken => k_is); (case cBroken => k_is); (case kBroken => k_is); (case aComes => k_is); (case lComes => k_is); (case cComes => k_is); (case kComes => k_is); (case aSb => k_is); (case lSb => k_is); (case cSb => k_is); (case kSb => k_is); (case aMState => k_is); (case iMState => k_is); (case lMState => k_is); (case cMState => k_is); (case kMState => k_is); (case aMGoals => k_is); (case iMGoals => k_is); (case lMGoals => k_is); (case cMGoals => k_is); (case kMGoals => k_is); (case aHas => k_is); (case lHas => k_is); (case cHas => k_is); (case kHas => k_is); (case aAre => k_is); (case lAre => k_is); (case cAre => k_is); (case kAre => k_is); (case aGive => k_is); (case lGive => k_is); (case cGive => k_is); (case kGive => k_is); (case aAfterD => k_is); (case lAfterD => k_is); (case cAfterD => k_is); (case kAfterD => k_is); (case aMGive => k_is); (case iMGive => k_is); (case lMGive => k_is); (case cMGive => k_is); (case kMGive => k_is); (case aMAim => k_is); (case iMAim => k_is); (case lMAim => k_is); (case cMAim => k_is); (case kMAim => k_is); (case aMBack => k_is); (case iMBack => k_is); (case lMBack => k_is); (case cMBack => k_is); (case kMBack => k_is); (case aMCalls => k_is); (case iMCalls => k_is); (case lMCalls => k_is); (case cMCalls => k_is); (case kMCalls => k_is); (case aDeed => k_is); (case lDeed => k_is); (case cDeed => k_is); (case kDeed => k_is); (case aNext => k_is); (case lNext => k_is); (case cNext => k_is); (case kNext => k_is); (case aGl => k_is); (case lGl => k_is); (case cGl => k_is); (case kGl => k_is); (case aTurn => k_is); (case lTurn => k_is); (case cTurn => k_is); (case kTurn => k_is); (case aSta => k_is); (case lSta => k_is); (case cSta => k_is); (case kSta => k_is); (case aAll => k_is); (case lAll => k_is); (case cAll => k_is); (case kAll => k_is); (case aRight => k_is); (case lRight => k_is); (case cRight => k_is); (case kRight => k_is); (case aLaw => k_is); (case lLaw => k_is); (case cLaw => k_is); (case kLaw => k_is); (case aMOST_PLACES => k_is); (case aABOVE_THIRTY_FIGURES => k_is); (case aMOST_STORED => k_is); (case aMOST_LETTERS => k_is); (case aSMALL_LETTERS => k_is); (case aMOST_IN_WALK => k_is); (case pgC => k_is); (case hdC => k_is); (case poC => k_is); (case saC => k_is); (case mkC => k_is); (case kcC => k_is); (case nSC => k_is); (case nMC => k_is); (case nAC => k_is); (case z_abs => k_is); (case z_all => k_is); (case z_any => k_is); (case z_bool => k_is); (case z_enumerate => k_is); (case z_int => k_is); (case z_isinstance => k_is); (case z_len => k_is); (case z_list => k_is); (case z_max => k_is); (case z_min => k_is); (case z_range => k_is); (case z_repr => k_is); (case z_set => k_is); (case z_sorted => k_is); (case z_str => k_is); (case z_sum => k_is); (case z_tuple => k_is); (case z_zip => k_is)
