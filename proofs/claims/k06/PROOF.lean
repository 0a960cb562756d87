import PyProof.Rows.All
import Wide.All
import OpenK.AllK
import Wide.FinOn
import PySem.Challenge.RW_matchgift_k06_runs_of_thousands
import HandS.ForMost
import HandS.IsInst
import HandS.TupAny
import HandS.TupMul
import HandS.Wide
import HandS.Flow
import HandS.RaiseMore
import PyProof.ReprRoads
import KE.GoesNew
import KE.KTupSum
import HandS.Walk
import HandS.WideBits
import PyProof.Rows.BitMore
import KE.BitLaws
import HandS.Conv
import HandS.Zip
set_option Elab.async false
set_option linter.all false
set_option maxRecDepth 100000
set_option maxHeartbeats 2000000
/-! MG: promises of defs that are called where no repr is under way, and repr of data by them. -/
namespace MG
open PySem PySem.Spec PyProof.Rows L2

structure FnG (P : Program) (w : World) (K : PySem.W.Frag) (mg : Str → Option Value) (base : Heap) (k : Nat)
    (f : Addr) (fd : FuncData) (ps : List Str) (sp : Sp) : Prop where
  len : ∀ vs H Q E, sp vs H Q E → vs.length = ps.length
  run : ∀ (A : Around) (outer : List Env) (s : Shared) (H : Hp) (args : Args) (us : List Value) (vs : List V) (Q : VK) (E : XK),
    A.guards = some [] → Room k A → Env0 P w K mg base A outer s H →
    BindsTo s fd args (ps.zip us) → Vals vs us → sp vs H Q E →
    codeAny (model P w) A (.call (.ref f) args) (CR CX0 outer P w H s Q E) s

section
variable {P : Program} {w : World} {K : PySem.W.Frag} {mg : Str → Option Value} {base : Heap}
theorem FnG.of {k : Nat} {f : Addr} {fd : FuncData} {ps : List Str} {sp : Sp}
    (F : FnOk P w K mg base CX0 k f fd ps sp) : FnG P w K mg base k f fd ps sp :=
  ⟨F.len, fun A outer s H args us vs Q E _ => F.run A outer s H args us vs Q E⟩

theorem okG {x qual : Str} {st : Stmt} {f : Addr} {fd : FuncData} {N ps : List Str} {k : Nat} {sp : Sp}
    (F : Fun K x qual st f fd) (S : FnScope N ps (defScope st))
    (hlen : ∀ vs H Q E, sp vs H Q E → vs.length = ps.length)
    (body : ∀ (cdv : Value) (A : Around) (outer : List Env) (s : Shared) (H : Hp) (vs : List V) (Q : VK) (E : XK),
      A.guards = some [] → Room k (A.deeper (envOfC qual (defScope st) s.heap.objs.size f cdv)) → sp vs H Q E →
      ∃ t, PSs (cxOf CX0 P w K mg base N qual (defScope st) f cdv A outer s H E).nox (defBody st) t ∧
        t { nx := fun _ H' => Q .non H', rt := Q } (start N vs) H) :
    FnG P w K mg base (k + 1) f fd ps sp := by
  obtain ⟨oc, od, kV, doc, pm, an, cdv, ct, osl, rfl, lk, hcd⟩ := F.ex
  refine ⟨hlen, ?_⟩
  intro A outer s H args us vs Q E gd room e0 bnd rel want
  have inK : K.In s.heap := e0.mod.kin.keeps (fun b o q => (e0.bs b o q).left)
  have noLim : s.heap.NoLimit := e0.mod.nolimit.keeps (fun b o q => (e0.bs b o q).left)
  refine codeAny_call_function room.depth (inK _ _ lk) rfl S.co S.gen rfl
    (PySem.W.codeRec_of inK hcd) (bnd _ _ _ _ ?_)
  refine wpAny_newFunctionEnv_cells S.kind ?_ ?_
  · rintro ⟨n, v⟩ hy
    rcases S.par n (List.of_mem_zip hy).1 with loc | cel
    · exact Or.inl loc
    · exact Or.inr ⟨cel, PySem.W.cellsFrom_some _ _ _ (Or.inl cel)⟩
  · intro env he s1 x
    subst he
    refine ⟨noLim.keeps x.toInCall.keep, codeAny_func ?_⟩
    obtain ⟨t, ht0, hq⟩ := body cdv A outer s H vs Q E gd (room.deeper _) want
    have ht := ht0.nox
    have I := inv_start (CX := CX0) (N := N) (qual := qual) (f := f) (cd := cdv) (E := E) S room.hd e0 (hlen _ _ _ _ want) rel x
    refine wpAny_mono (ht.run [] s1 (start N vs) H _ I hq) ?_ (fun _ _ z => z)
    intro fl s' hs
    cases fl with
    | ret u =>
      obtain ⟨v, σ', H', J, rv, q⟩ := hs
      exact ⟨v, H', J.os, J.bare, J.base, J.hok, rv, q⟩
    | next =>
      obtain ⟨σ', H', J, q⟩ := hs
      exact ⟨V.non, H', J.os, J.bare, J.base, J.hok, rfl, q⟩
    | brk =>
      obtain ⟨_, _, _, q⟩ := hs
      exact q.elim
    | cont =>
      obtain ⟨_, _, _, q⟩ := hs
      exact q.elim
end

section
variable {X : Cx} {k : Nat} {f : Addr} {fd : FuncData} {ps : List Str} {sp : Sp} {E : XK} {x : Str} {p pos : Pos}
  {e : Expr} {es : List Expr} {t : TA}
/-- f(e, ..) of such a def -/
theorem pe_callG (F : FnG X.prog X.w X.K X.mg X.base k f fd ps sp) (gd : X.A.guards = some []) (hr : Room k X.A) (hg : Gl X x)
    (hm : X.mg x = some (.ref f)) (hk : PySem.W.keepIn X.K (.ref f) = true) (hb : Binds X.K fd ps []) (ha : PA X (e :: es) t)
    (hdb : (x == ("__debug__" : Str)) = false := by decide)
    (he : starEach (e :: es) X.env = (false, eval e X.env) :: starEach es X.env := by rfl)
    (hpl : (backTo pos (starEach es X.env)).any (·.1) = false := by rfl) :
    PE X (.Call (.Name x p) (e :: es) [] pos) (tCall sp [] E t) := by
  constructor
  intro pins s σ H Q I h
  refine wpAny_Call_Name_kw (ld_glob I hg hm ?_ hdb)
  refine PySem.W.callWith_K (h₀ := X.base) I.ok.mod.kin hk ?_ he hpl
  refine thn (ha.run pos pins s σ H _ I h) ?_
  rintro us s1 ⟨vs, H1, I1, r, q⟩
  refine ⟨I1.kIn, ?_⟩
  have q' : sp (vs ++ []) H1 Q E := q
  rw [List.append_nil] at q'
  have hl : us.length = ps.length := by
    rw [← r.length]
    exact F.len _ _ _ _ q'
  have hb' := hb s1 us I1.kIn (by simpa using hl)
  rw [List.append_nil] at hb'
  refine wpAny_call (codeAny_mono (F.run X.A X.stack s1 H1 ⟨us, []⟩ us vs Q E gd hr I1.env0 hb' r q') ?_)
  intro res s' hq
  cases res with
  | error e => exact False.elim hq
  | ok fl =>
    cases fl with
    | ret u => exact I1.after hq
    | next => exact False.elim hq
    | brk => exact False.elim hq
    | cont => exact False.elim hq
end
end MG

namespace MG
open PySem PySem.Spec PyProof.Rows L2

def SysD (h : Heap) : Prop := ∃ mm, h.Ns sysModules mm
theorem lawG {P : Program} {w : World} {K : PySem.W.Frag} {mg mb : Str → Option Value} {k : Nat} {fa a : Addr} {fd : FuncData} {x : Str}
    {sp : Sp} {s₁ : Shared} {vs : List Value} {ns : List Int}
    (KX : K.In s₁.heap) (hns : s₁.heap.Ns mainGlobals mg) (hb : s₁.heap.Ns builtinsNs mb)
    (hbb : ∀ x : Str, x ≠ "__name__" → mb x = bootBuiltins x) (hlim : s₁.heap.NoLimit) (hsys : SysD s₁.heap) (hg : s₁.gens = #[])
    (ha : s₁.heap.get? a = some { cls := .type "list", data := .seq vs.toArray }) (hi : IntsAre vs ns)
    (hl : ns.length ≤ sizeLine) (hr : Room k callerA)
    (F : ∀ base : Heap, K.In base → base.Ns mainGlobals mg → SysD base → FnG P w K mg base k fa fd [x] sp)
    (hbind : ∀ (s : Shared) (u : Value), BindsTo s fd ⟨[u], []⟩ [(x, u)])
    (hsp : ∀ H : Hp, Only H → SqL K H a (ns.map V.int) → sp [.ref a] H (fun v _ => v = .bl true) fun _ _ _ => False) :
    codeAny (model P w) callerA (.call (.ref fa) ⟨[.ref a], []⟩)
      (fun r s' => r = .ok (.ret (.bool true)) ∧ OldK s₁.heap s'.heap ∧ s'.os = s₁.os ∧ AllBare s'.gens) s₁ := by
  have rels := vals_ints hi
  have sizes := hi.length
  have go : ∀ H : Hp, Only H → SqL K H a (ns.map V.int) → HOk P w H s₁.heap → (∀ b, H b ≠ none → b = a) →
      (H a ≠ none → K.lookup a = none) →
      codeAny (model P w) callerA (.call (.ref fa) ⟨[.ref a], []⟩)
        (fun r s' => r = .ok (.ret (.bool true)) ∧ OldK s₁.heap s'.heap ∧ s'.os = s₁.os ∧ AllBare s'.gens) s₁ := by
    intro H only sq ok justA noK
    have dictFree : ∀ {b : Addr} {o : Obj} {es : Array DictEntry} {ep : Nat}, s₁.heap.get? b = some o → o.data = .dict es ep → H b = none := by
      intro b o es ep hget hdat
      cases hH : H b with
      | none => rfl
      | some u =>
        obtain rfl : b = a := justA b (by rw [hH]; exact fun z => nomatch z)
        rw [ha] at hget
        cases hget
        exact (nomatch (show Data.seq vs.toArray _ = Data.dict es ep from hdat))
    have nsHid : ∀ {b : Addr} {m : Str → Option Value}, s₁.heap.Ns b m → (hidT s₁.heap H).Ns b m := by
      rintro b m ⟨o, es, ep, h1, h2, h3⟩
      exact ⟨o, es, ep, hidT_get h1 (dictFree h1 h2), h2, h3⟩
    have kHid : K.In (hidT s₁.heap H) := by
      intro b o look
      refine hidT_get (KX b o look) ?_
      cases hH : H b with
      | none => rfl
      | some u =>
        obtain rfl : b = a := justA b (by rw [hH]; exact fun z => nomatch z)
        have z := noK (by rw [hH]; exact fun z => nomatch z)
        rw [z] at look
        cases look
    have modl : Mod K mg (hidT s₁.heap H) := by
      obtain ⟨mc, l1, l2⟩ := hlim
      exact ⟨kHid, nsHid hns, ⟨mb, nsHid hb, hbb⟩, ⟨mc, nsHid l1, l2⟩⟩
    have e0 : Env0 P w K mg (hidT s₁.heap H) callerA [] s₁ H :=
      { frames := rfl
        mod := modl
        bs := fun b o q => of_hidT q
        bsz := Nat.le_of_eq (hidT_size _ _)
        funs := trivial
        frf := fun b hb => absurd (show b ∈ ([] : List Addr) from hb) List.not_mem_nil
        hok := ok
        bare := .of_eq hg }
    refine codeAny_mono ((F _ kHid (nsHid hns) (let ⟨mm, q⟩ := hsys; ⟨mm, nsHid q⟩)).run callerA [] s₁ H ⟨[.ref a], []⟩ [.ref a] [.ref a] _ _ rfl hr e0
      (hbind s₁ (.ref a)) (.cons rfl .nil) (hsp H only sq)) ?_
    intro r s' h
    cases r with
    | error e => exact False.elim h
    | ok fl =>
      cases fl with
      | next => exact False.elim h
      | brk => exact False.elim h
      | cont => exact False.elim h
      | ret u =>
        obtain ⟨v, H', hos, hbare, un, ok', rel, q⟩ := h
        obtain rfl : v = .bl true := q
        obtain rfl : u = Value.bool true := rel
        refine ⟨rfl, OldK.of_keep ?_, hos, hbare⟩
        intro b o hget
        rcases only b with hn | ⟨ob, xs, hf⟩
        · exact un.keep b o hget hn (fun z => absurd (show b ∈ ([] : List Addr) from z) List.not_mem_nil) List.not_mem_nil
        · have q1 := (ok b _ hf).1
          have q2 := (ok' b _ (un.frzs b ob _ hf)).1
          rw [hget] at q1
          cases q1
          exact q2
  cases hk : K.lookup a with
  | none =>
    let ob : Obj := { cls := .type "list", data := .seq vs.toArray }
    let H : Hp := fun b => if b = a then some (.frz ob (.lst (ns.map V.int))) else none
    have atA : H a = some (.frz ob (.lst (ns.map V.int))) := if_pos rfl
    have off : ∀ b, b ≠ a → H b = none := fun b hb => if_neg hb
    refine go H ?_ (.inl (.inr ⟨ob, atA⟩)) ?_ ?_ (fun _ => hk)
    · intro b
      by_cases hb : b = a
      · subst hb; exact .inr ⟨_, _, atA⟩
      · exact .inl (off b hb)
    · intro b u z
      by_cases hb : b = a
      · subst hb
        rw [atA] at z
        cases z
        exact ⟨ha, by rw [List.length_map]; exact hl, vs, _, rels, ha⟩
      · rw [off b hb] at z
        cases z
    · intro b z
      by_cases hb : b = a
      · exact hb
      · exact absurd (off b hb) z
  | some o =>
    have e := KX a o hk
    rw [ha] at e
    cases e
    exact go (fun _ => none) (fun _ => .inl rfl)
      (.inr ⟨_, vs.toArray, _, hk, rfl, rfl, rfl, by rw [List.size_toArray, sizes]; exact hl, by simpa using rels⟩)
      (fun b u z => nomatch (show (none : Option HO) = some u from z)) (fun b z => absurd rfl z) (fun z => absurd rfl z)

theorem walkG {l : PySem.W.OpenLaw} {n k : Nat} {q : Program} {loose : List Str} {XP : (Str → Option Value) → Heap → Prop}
    {YP : World → Heap → Prop} {d : DefRec} {K : Params → PySem.W.Frag} {sp : PySem.W.Frag → Sp} {x : Str}
    (hn : l.most = some n) (hn2 : n ≤ sizeLine) (hdf : d.params.defaults = []) (hr : Room k callerA) (hq : importsNone q = true)
    (hY : ∀ (w : World) (h : Heap), YP w h → (K w.params).In h)
    (F : ∀ (w : World) (mg : Str → Option Value) (fa : Addr) (h : Heap), (K w.params).In h → h.Ns mainGlobals mg → mg d.name = some (.ref fa) →
      ∃ fd : FuncData, (∀ (s : Shared) (u : Value), BindsTo s fd ⟨[u], []⟩ [(x, u)]) ∧
        ∀ base : Heap, (K w.params).In base → base.Ns mainGlobals mg → SysD base → FnG l.prog w (K w.params) mg base k fa fd [x] (sp (K w.params)))
    (hsp : ∀ (K : PySem.W.Frag) (H : Hp) (a : Addr) (ns : List Int), ns.length ≤ n → Only H → SqL K H a (ns.map V.int) →
      sp K [.ref a] H (fun v _ => v = .bl true) fun _ _ _ => False) :
    PySem.W.WalkO q loose XP YP l.row.toRowW d [] (fun f vs => PySem.call f vs) := by
  refine Att.attach_call hn hdf ?_
  intro w s₀ s₁ mg mb fa o pm cd doc a vs ns G Y _ _ _ hmg hobj hints hlen hg
  have KX := hY w _ Y
  obtain ⟨fd, hbd, hF⟩ := F w mg fa _ KX G.T.g hmg
  exact lawG KX G.T.g G.T.b G.T.builtins G.T.nolimit (let ⟨mm, q, _⟩ := (G.T.seer hq).mods; ⟨mm, q⟩) hg hobj hints (Nat.le_trans hlen hn2) hr hF hbd
    (fun H hO hS => hsp _ H a ns hlen hO hS)
end MG

namespace MG
open PySem PySem.Spec PyProof.Rows L2

/-- behind enumerate(v): v's iterator, and who counts beside it -/
abbrev counts (g : Heap) (o : Obj) : Heap :=
  (g.push o).push { cls := .type "enumerate", data := .fields #[.none, .bool false, .ref g.objs.size, rawInt 0, .none, .none] }
theorem counts_new {v : Value} {o : Obj} {S : Heap → Prop} (B : Begins v o S) :
    PySem.Meets (Builtin.«enumerate.__new__» ⟨[.type "enumerate", v], []⟩) (fun _ R s =>
      S s.heap ∧ R (.ok (.ret (.ref (s.heap.push o).objs.size))) { s with heap := counts s.heap o }) := by
  refine .of_wp fun prog w A R s want => ?_
  obtain ⟨g, gens, drawn, tk, os⟩ := s
  have own := sub_enumerate
  have begun : ∀ {A' : Around} {Q E' : Value → Shared → Prop}, Q (.ref g.objs.size) ⟨g.push o, gens, drawn, tk, os⟩ →
      wpAny (model prog w) A' (pyIter v) Q E' ⟨g, gens, drawn, tk, os⟩ := fun q => B.iter _ _ _ _ _ _ want.1 q
  wp_walk using begun
  refine wpAny_stack_any fun top => wpAny_pure ?_
  split
  case h_1 c _ _ _ _ _ =>
    cases c == Value.type "enumerate" <;> (wp_walk using begun; exact ⟨_, rfl, want.2⟩)
  case h_2 =>
    wp_walk using begun
    exact ⟨_, rfl, want.2⟩
theorem counts_call {prog : Program} {w : World} {A : Around} {E : Value → Shared → Prop} {s : Shared} {v : Value} {o : Obj} {S : Heap → Prop}
    {Q : Value → Shared → Prop} (B : Begins v o S) (ready : S s.heap)
    (next : ∀ g, IsEnum g (s.heap.objs.size + 1) s.heap.objs.size 0 .none → g.get? s.heap.objs.size = some o →
      (∀ b u, s.heap.get? b = some u → g.get? b = some u) → Q (.ref (s.heap.objs.size + 1)) { s with heap := g }) :
    wpAny (model prog w) A (call (.type "enumerate") [v]) Q E s := by
  have up : (s.heap.push o).objs.size = s.heap.objs.size + 1 := Heap.size_push ..
  have first : (counts s.heap o).get? s.heap.objs.size = some o := Heap.get?_push_of_some _ (Heap.get?_push_size _ B.free)
  have second : (counts s.heap o).get? (s.heap.push o).objs.size = _ := Heap.get?_push_size _ rfl
  have rest : ∀ b u, s.heap.get? b = some u → (counts s.heap o).get? b = some u := fun _ _ at_ =>
    Heap.get?_push_of_some _ (Heap.get?_push_of_some _ at_)
  rw [up] at second
  refine callType_new F.called_enumerate (by decide) (F.typeCall_enumerate_1 v) (F.newCall_enumerate_1 v)
    (fun obj => F.args_object_init_2 obj v) F.entry_enumerate_new (counts_new B) ⟨ready, ?_⟩
  rw [up]
  exact ⟨⟨_, second, rfl⟩, next _ second first rest⟩
/-! ### walks that tell a new tuple each time -/
theorem not_tuple {g : Heap} {b c : Addr} {o : Obj} {items : Array Value} (t : IsTup g b items) (at_ : g.get? c = some o) (cls : o.cls ≠ .type "tuple") : b ≠ c := by
  obtain ⟨u, here, k, _⟩ := t
  intro e
  rw [e, at_] at here
  exact cls (by rw [Option.some.inj here]; exact k)
section told
variable {X : Cx} {pins : List (Addr × Obj)} {σ : L2.St} {H : Hp} {s : Shared} {ours : List Addr} {g : Heap} {tk : Nat}
/-- behind a walk's step: the tuple at T is new, our own objects are still nobody's -/
theorem told_new {T : Addr} {xs : List V} {us : List Value} (I : Inv X pins σ H s) (own : ∀ b ∈ ours, FpOk X pins H b)
    (live : ∀ b ∈ ours, ∃ o, s.heap.get? b = some o) (off : ∀ b o, b ∉ ours → s.heap.get? b = some o → g.get? b = some o)
    (new : s.heap.objs.size ≤ T) (made : IsTup g T us.toArray) (rel : Vals xs us) (few : xs.length ≤ sizeLine) :
    Inv X pins σ (upd H T (.tup xs)) { s with heap := g, toks := tk } ∧ H T = none ∧ ∀ b ∈ ours, upd H T (.tup xs) b = none :=
  ⟨I.turnedNew off own new ⟨few, us, rel, made⟩, I.hok.fresh new, fun b hb => by
    obtain ⟨o, at_⟩ := live b hb
    rw [upd_ne (Nat.ne_of_lt (Nat.lt_of_lt_of_le (Heap.lt_size at_) new))]
    exact (own b hb).1⟩
end told

/-! ### enumerate of a tuple -/
def IteT (K : PySem.W.Frag) (a : Addr) : It :=
  ⟨fun i H => ∃ (xs : List V) (x : V), SqT K H a xs ∧ xs[i]? = some x,
   fun i H v H' => ∃ T x, v = .ref T ∧ H T = none ∧ H' = upd H T (.tup [.int (i : Nat), x]) ∧ ∀ xs, SqT K H a xs → xs[i]? = some x,
   fun i H => ∃ xs : List V, SqT K H a xs ∧ xs.length = i⟩
/-- who counts at e, over the iterator at t of the tuple at a, i told -/
def EnT (a e t : Addr) (i : Nat) (g : Heap) : Prop := (∃ old, IsEnum g e t (i : Nat) old) ∧ g.IsTupleIter t a i ∧ e ≠ t
theorem EnT.live {a e t : Addr} {i : Nat} {g : Heap} (st : EnT a e t i g) : ∀ b ∈ [e, t], ∃ o, g.get? b = some o ∧ ∀ v, o.data ≠ .cell v := by
  obtain ⟨⟨old, he⟩, ⟨o, ho, _, dat⟩, _⟩ := st
  intro b hb
  cases hb with
  | head => exact ⟨_, he, fun v z => nomatch z⟩
  | tail _ hb =>
    obtain rfl := List.mem_singleton.mp hb
    exact ⟨o, ho, fun v z => nomatch (show Data.fields _ = Data.cell v from dat.symm.trans z)⟩
theorem turn_enumT {P : Program} {w : World} {K : PySem.W.Frag} {elts : List Expr} {kk : Nat} {tpos : Pos} (a e t : Addr) :
    Turn P w K (.Tuple elts kk tpos) (IteT K a) [e, t] e (EnT a e t) where
  mem := List.mem_cons_self
  obj := fun _ _ st => st.live
  keep := fun i g g' ⟨⟨old, he⟩, ht, ne⟩ k => ⟨⟨old, k e List.mem_cons_self _ he⟩, ht.at fun o => k t (List.mem_cons_of_mem _ List.mem_cons_self) o, ne⟩
  self := fun A i s Q E st q => by
    obtain ⟨⟨old, he⟩, _⟩ := st
    exact wpAny_pyIter_enum he q
  item := by
    intro X hP hw hK calm i pins s σ H E I own st go
    subst hP hw hK
    obtain ⟨xs, x, hq, hx⟩ := go
    obtain ⟨us, rel, tup, _⟩ := I.tuple hq
    obtain ⟨u, hu, ru⟩ := rel.get hx
    have live := st.live
    obtain ⟨⟨old, he⟩, ht, ne⟩ := st
    have at_ : a ≠ t := by
      obtain ⟨o, ho, cls, _⟩ := id ht
      exact not_tuple tup ho (by rw [cls]; decide)
    have ae : e ∉ [t, a] := by
      intro z
      cases z with
      | head => exact ne rfl
      | tail _ z => exact not_tuple tup he (by show Value.type "enumerate" ≠ .type "tuple"; decide) (List.mem_singleton.mp z).symm
    have walk := GoesN.enumFrom (elts := elts) (x1 := kk) (pos := tpos) 0
      (Draws.tuple (prog := X.prog) (w := X.w) (A := X.A.in1) (I.ok.hd calm) t a at_ us.toArray) e ne ae List.mem_cons_self
    refine walk.goes i s (fun v s2 => ∃ y H', Inv X pins σ H' s2 ∧ RelV y v ∧ (IteT X.K a).yld i H y H' ∧ EnT a e t (i + 1) s2.heap ∧ ∀ b ∈ [e, t], H' b = none) E
      ?_ ⟨⟨old, by rw [Int.zero_add]; exact he⟩, ht, tup⟩ ?_
    · rw [List.size_toArray]
      exact (List.getElem?_eq_some_iff.mp hu).1
    · rintro v g tk ⟨T, tok, y, rfl, new, hy, made⟩ ⟨⟨old2, he2⟩, ht2, _⟩ off _
      obtain rfl : y = u := Option.some.inj (by rw [← hu, ← hy, List.getElem?_toArray])
      rw [Int.zero_add] at made he2
      obtain ⟨J, free, none_⟩ := told_new (tk := tk) (xs := [.int (i : Nat), x]) (us := [.int i tok, y]) I own (fun b hb => let ⟨o, q, _⟩ := live b hb; ⟨o, q⟩) off new made
        (.cons ⟨tok, rfl⟩ (.cons ru .nil)) (by show 2 ≤ sizeLine; decide)
      exact ⟨.ref T, _, J, rfl, ⟨T, x, rfl, free, rfl, fun ys hy => by rw [I.tuple_inj hy hq]; exact hx⟩, ⟨⟨old2, he2⟩, ht2, ne⟩, none_⟩
  done := by
    intro X hP hw hK calm i pins s σ H E I own st go
    subst hP hw hK
    obtain ⟨xs, hq, rfl⟩ := go
    obtain ⟨us, rel, tup, _⟩ := I.tuple hq
    obtain ⟨⟨old, he⟩, ht, ne⟩ := st
    have at_ : a ≠ t := by
      obtain ⟨o, ho, cls, _⟩ := id ht
      exact not_tuple tup ho (by rw [cls]; decide)
    have ae : e ∉ [t, a] := by
      intro z
      cases z with
      | head => exact ne rfl
      | tail _ z => exact not_tuple tup he (by show Value.type "enumerate" ≠ .type "tuple"; decide) (List.mem_singleton.mp z).symm
    have walk := GoesN.enumFrom (elts := elts) (x1 := kk) (pos := tpos) 0
      (Draws.tuple (prog := X.prog) (w := X.w) (A := X.A.in1) (I.ok.hd calm) t a at_ us.toArray) e ne ae List.mem_cons_self
    have len : us.toArray.size = xs.length := by rw [List.size_toArray, rel.length]
    refine walk.stops s (fun s' => Inv X pins σ H s') E (by rw [len]; exact ⟨⟨old, by rw [Int.zero_add]; exact he⟩, ht, tup⟩) fun g tk off _ => I.turnedL (t' := tk) off own

def iEnumT (K : PySem.W.Frag) (ta : TA) : TI := fun σ H R => ta σ H fun vs H1 => ∃ a xs, vs = [.ref a] ∧ SqT K H1 a xs ∧ R (IteT K a) H1
theorem pi_enumT {X : Cx} {e : Expr} {ta : TA} {p pos tpos : Pos} {elts : List Expr} {kk : Nat} (hg : Gl X "enumerate")
    (hm : X.mg "enumerate" = none) (ha : PA X [e] ta) (hs : starEach [e] X.env = [(false, eval e X.env)] := by rfl) :
    PI X (.Tuple elts kk tpos) (.Call (.Name "enumerate" p) [e] [] pos) (iEnumT X.K ta) := by
  refine ⟨fun pins s σ H R I want => Call_ (ld_blt I hg hm boot_enumerate (PyProof.Rows.callWith_type1 (thn (ha.run pos pins s σ H _ I want) ?_) hs rfl))⟩
  rintro us s1 ⟨vs, H1, I1, rel, a, xs, rfl, hq, go⟩
  obtain rfl := rel.ref1
  obtain ⟨its, _, tup, _⟩ := I1.tuple hq
  refine counts_call (begins_tuple a its.toArray) tup fun g he ht up => wpAny_pyIter_enum he ?_
  have new : ∀ b ∈ [s1.heap.objs.size + 1, s1.heap.objs.size], s1.heap.objs.size ≤ b := by
    intro b hb
    simp only [List.mem_cons, List.not_mem_nil, or_false] at hb
    omega
  exact ⟨_, _, _, _, H1, rfl, I1.kept (t' := s1.toks) up, turn_enumT a (s1.heap.objs.size + 1) s1.heap.objs.size,
    ⟨⟨_, he⟩, ⟨_, ht, rfl, rfl⟩, Nat.succ_ne_self _⟩, fun b hb => I1.fpOk (new b hb) (I1.hok.fresh (new b hb)), go⟩
theorem walk_enumT {K : PySem.W.Frag} {a : Addr} {xs : List V} :
    Walk (IteT K a) xs.length (fun H => SqT K H a xs) (YPair (fun i => some (.int (i : Nat))) (fun i => xs[i]?)) := by
  refine ⟨fun i H lt q => ⟨xs, xs[i], q, List.getElem?_eq_getElem lt⟩, fun H q => ⟨xs, q, rfl⟩, ?_⟩
  rintro i H v H' _ q ⟨T, x, e, free, next, is⟩
  exact ⟨T, .int (i : Nat), x, e, free, next, rfl, is xs q⟩

/-! ### sum of a tuple of whole numbers -/
theorem sumT {X : Cx} (hc : X.calm = true) : CallR X (.builtin "sum") (fun vs H Q => ∃ (a : Addr) (ns : List Int),
    vs = [V.ref a] ∧ SqT X.K H a (ns.map V.int) ∧ Q (.int ns.sum) H) := by
  rintro pins s σ H xs us Q I r ⟨a, ns, rfl, hq, q⟩
  obtain rfl := r.ref1
  obtain ⟨its, rv, p, hz⟩ := I.tuple hq
  have hi : IntsAre its ns := rv.ints
  obtain ⟨ys, hy⟩ := hi.allInts.items
  have hn : numsOf its.toArray.toList = ns := by
    rw [show its.toArray.toList = its from rfl, hi.numsOf]
  have p' : s.heap.IsTuple a its.toArray := p
  rw [hy] at p' hn
  rw [nums_intItems] at hn
  refine PySem.W.ktm_sumG (I.ok.hd hc) p' ?_
  intro h' tk t' hk
  have e : preSum (numAt ys) ys.size = ns.sum := by
    rw [preSum_eq, List.take_of_length_le (by simp), hn]
  rw [e]
  exact ⟨.int ns.sum, H, I.kept hk, ⟨t', rfl⟩, q⟩

/-! ### a text so many times -/
def repText (z : Str) (n : Nat) : Str := ⟨(List.replicate n z.cps).foldl (· ++ ·) #[]⟩
theorem repS {X : Cx} : OpR X (binaryOp .Mult) (fun x y H Q => ∃ (z : Str) (n : Int), x = .str z ∧ y = .int n ∧ 2 ≤ n ∧ n ≤ 1000 ∧
    z.length = 1 ∧ (repText z n.toNat).length ≤ sizeLine ∧ Q (.str (repText z n.toNat)) H) := by
  rintro pins s σ H x y v u Q I rx ry ⟨z, n, rfl, rfl, h1, h2, hz, hs, q⟩
  obtain ⟨t, rfl⟩ := rx
  obtain ⟨t2, rfl⟩ := ry
  have c1 : ¬ n < 1 := by omega
  have c2 : (n == 1 || z.length == 0) = false := by
    rw [hz, show (n == 1) = false from beq_eq_false_iff_ne.mpr (by omega)]
    rfl
  refine PySem.P.mul_str ?_ ?_ ?_ ?_
  · rw [decide_eq_false (show ¬ n < -(2 ^ 63 : Int) by omega), decide_eq_false (show ¬ n ≥ 2 ^ 63 by omega)]
    rfl
  · intro _ _
    rw [hz]
    have : (1 : Int) ≤ (2 ^ 63 - 1) / n := by
      refine (Int.le_ediv_iff_mul_le (by omega)).mpr ?_
      omega
    omega
  · intro _ _
    show decide (z.length * n.toNat > sizeLine) = false
    rw [hz]
    refine decide_eq_false ?_
    rw [sizeLine_eq]
    omega
  · rw [if_neg c1, if_neg (by rw [c2]; exact Bool.false_ne_true)]
    exact ⟨hs, .str _, H, I.tok _, ⟨_, rfl⟩, q⟩

/-! ### a tuple so many times, once and never, too -/
theorem mulT_same (l : Addr) (items : Array Value) (n : Nat) (dd : Option Addr) (sl : Array (Option Value)) (x : Int) (u : Tok)
    (c1 : (items.isEmpty || x == 1) = true) (c0 : (decide (x < -(2 ^ 63)) || decide (x ≥ 2 ^ 63)) = false) :
    Meets (Builtin.«tuple.__mul__» ⟨[.ref l, .int x u], []⟩) (fun _ R s => s.heap.get? l = some { cls := .type "tuple", dict := dd, data := .seq items n, slots := sl } ∧
      R (.ok (.ret (Value.ref l))) s) :=
  .of_wp fun prog w A R s h => by
    obtain ⟨hp, g, d, tk, os⟩ := s
    obtain ⟨hl, h⟩ := h
    have f1 := AutoSeq1.idx_int
    wp_walk using AutoSeq1.wpAny_loadPart' hl
    repeat (first
      | (refine wpAny_ite_false (decide_eq_false (by rw [c0]; exact Bool.false_ne_true)) ?_; wp_walk using AutoSeq1.wpAny_loadPart' hl)
      | (refine wpAny_ite_true (decide_eq_true (by rw [c1])) ?_; wp_walk using AutoSeq1.wpAny_loadPart' hl))
    exact ⟨_, rfl, h⟩
end MG

namespace MG
open PySem PySem.Spec PyProof.Rows L2

theorem mulT_none (l : Addr) (items : Array Value) (n : Nat) (dd : Option Addr) (sl : Array (Option Value)) (u : Tok)
    (c1 : items.isEmpty = false) :
    Meets (Builtin.«tuple.__mul__» ⟨[.ref l, .int 0 u], []⟩) (fun _ R s =>
      s.heap.get? l = some { cls := .type "tuple", dict := dd, data := .seq items n, slots := sl } ∧
      R (.ok (.ret (Value.ref s.heap.objs.size))) { s with heap := s.heap.push { cls := Value.type "tuple", data := Data.seq #[] }, toks := s.toks }) :=
  .of_wp fun prog w A R s h => by
    obtain ⟨hp, g, d, tk, os⟩ := s
    obtain ⟨hl, h⟩ := h
    have f1 := AutoSeq1.idx_int
    have c2 : (items.isEmpty || (0 : Int) == 1) = false := by rw [c1]; rfl
    have c3 : (decide ((0 : Int) ≤ 0) || items.isEmpty) = true := rfl
    wp_walk using AutoSeq1.wpAny_loadPart' hl
    repeat (first
      | (refine wpAny_ite_false (decide_eq_false (by rw [c2]; exact Bool.false_ne_true)) ?_; wp_walk using AutoSeq1.wpAny_loadPart' hl)
      | (refine wpAny_ite_true (decide_eq_true (by rw [c3])) ?_; wp_walk using AutoSeq1.wpAny_loadPart' hl))
    exact ⟨_, rfl, h⟩

def rRepA (K : PySem.W.Frag) : R2 := fun x y H Q => ∃ l k xs, x = .ref l ∧ y = .int k ∧ SqT K H l xs ∧ xs ≠ [] ∧ 0 ≤ k ∧ k ≤ 1000 ∧
  xs.length ≤ 1000 ∧ (k = 1 → Q (.ref l) H) ∧ (k ≠ 1 → ∀ p, H p = none → Q (.ref p) (upd H p (.tup (List.replicate k.toNat xs).flatten)))
theorem op_repA {X : Cx} : OpR X (binaryOp .Mult) (rRepA X.K) := by
  rintro pins s σ H x y v u Q I rx ry ⟨l, k, xs, rfl, rfl, hT, hne, h1, h2, hz, q1, q2⟩
  by_cases hk : 2 ≤ k
  · exact op_repT pins s σ H _ _ v u Q I rx ry ⟨l, k, xs, rfl, rfl, hT, hne, hk, h2, hz, q2 (by omega)⟩
  · cases rx
    obtain ⟨t, rfl⟩ := ry
    obtain ⟨its, r, ⟨⟨cls, dd, data, sl⟩, ho, hc, n, hd⟩, hs⟩ := I.tuple hT
    simp only at hc hd
    subst hc hd
    have hi : its.toArray.isEmpty = false := by
      cases its with
      | nil =>
        have := r.length
        exact absurd (List.eq_nil_of_length_eq_zero this) hne
      | cons a b => rfl
    have ty : ∀ s' : Shared, s'.TypeIs (.int k t) "int" := fun s' => typeIs_int s' k t
    by_cases hk1 : k = 1
    · refine wpAny_binaryOp_repeat_ref (T := "tuple") (U := "int") (by decide) ⟨_, ho, rfl⟩ ty noFill_tuple_mul F.fills_int_mul
        F.slot_int_rmul repeat_tuple F.slot_int_index.lookup ?_
      refine call_meets F.slot_int_rmul (typeIs_int s k t) F.entry_int_rmul (F.args_int_rmul_2 _ _)
        (int_rmul_tuple k t l its.toArray n dd sl) ⟨ho, rfl, ⟨_, ho, rfl⟩, ?_⟩
      refine call_meets F.slot_tuple_mul ⟨_, ho, rfl⟩ F.entry_tuple_mul (F.args_tuple_mul_2 _ _)
        (mulT_same l its.toArray n dd sl k t (by rw [hk1, hi]; rfl) ?_) ⟨ho, ?_⟩
      · rw [decide_eq_false (show ¬ k < -(2 ^ 63 : Int) by omega), decide_eq_false (show ¬ k ≥ 2 ^ 63 by omega)]
        rfl
      · exact ⟨.ref l, H, I, rfl, q1 hk1⟩
    · have hk0 : k = 0 := by omega
      subst hk0
      refine wpAny_binaryOp_repeat_ref (T := "tuple") (U := "int") (by decide) ⟨_, ho, rfl⟩ ty noFill_tuple_mul F.fills_int_mul
        F.slot_int_rmul repeat_tuple F.slot_int_index.lookup ?_
      refine call_meets F.slot_int_rmul (typeIs_int s 0 t) F.entry_int_rmul (F.args_int_rmul_2 _ _)
        (int_rmul_tuple 0 t l its.toArray n dd sl) ⟨ho, rfl, ⟨_, ho, rfl⟩, ?_⟩
      refine call_meets F.slot_tuple_mul ⟨_, ho, rfl⟩ F.entry_tuple_mul (F.args_tuple_mul_2 _ _)
        (mulT_none l its.toArray n dd sl t hi) ⟨ho, ?_⟩
      refine ⟨.ref s.heap.objs.size, _, I.laid (t' := s.toks) (o := .tup []) (fun b ob q => Heap.get?_push_of_some _ q)
        (Nat.le_refl _) ?_, rfl, q2 hk1 _ (I.hok.fresh (Nat.le_refl _))⟩
      exact ⟨Nat.zero_le _, [], .nil, IsTup.new _ _⟩

/-! ### data: None, truths, whole numbers, texts, lists, tuples, dicts with text keys -/
def kD : Key → PyData
  | .inl i => .int i
  | .inr x => .str x
mutual
inductive Dd (H : Hp) : V → PyData → Prop
  | non : Dd H .non .none
  | bl (b : Bool) : Dd H (.bl b) (.bool b)
  | int (i : Int) : Dd H (.int i) (.int i)
  | str (x : Str) : Dd H (.str x) (.str x)
  | lst {a : Addr} {xs : List V} {ds : List PyData} : H a = some (.lst xs) → DdAll H xs ds → Dd H (.ref a) (.list ds)
  | tup {a : Addr} {xs : List V} {ds : List PyData} : H a = some (.tup xs) → DdAll H xs ds → Dd H (.ref a) (.tuple ds)
  | dic {a : Addr} {kvs : List (Key × V)} {ds : List PyData} : H a = some (.dK kvs) → DdAll H (kvs.map (·.2)) ds →
      Dd H (.ref a) (.dict ((kvs.map fun p => kD p.1).zip ds))
inductive DdAll (H : Hp) : List V → List PyData → Prop
  | nil : DdAll H [] []
  | cons {v : V} {vs : List V} {d : PyData} {ds : List PyData} : Dd H v d → DdAll H vs ds → DdAll H (v :: vs) (d :: ds)
end
theorem DdAll.length {H : Hp} : ∀ {vs : List V} {ds : List PyData}, DdAll H vs ds → ds.length = vs.length
  | [], _, h => by cases h; rfl
  | v :: vs, _, h => by
    cases h with
    | cons _ t => rw [List.length_cons, List.length_cons, t.length]

mutual
theorem Dd.same {H H' : Hp} (s : Same H H') : ∀ {v : V} {d : PyData}, Dd H v d → Dd H' v d
  | _, _, .non => .non
  | _, _, .bl b => .bl b
  | _, _, .int i => .int i
  | _, _, .str x => .str x
  | _, _, .lst e r => .lst (s _ _ e) (DdAll.same s r)
  | _, _, .tup e r => .tup (s _ _ e) (DdAll.same s r)
  | _, _, .dic e r => .dic (s _ _ e) (DdAll.same s r)
theorem DdAll.same {H H' : Hp} (s : Same H H') : ∀ {vs : List V} {ds : List PyData}, DdAll H vs ds → DdAll H' vs ds
  | _, _, .nil => .nil
  | _, _, .cons a b => .cons (Dd.same s a) (DdAll.same s b)
end

section
variable {X : Cx} {pins : List (Addr × Obj)} {σ : L2.St} {H : Hp} {s : Shared}
theorem key_read {P : Program} {w : World} {h : Heap} {k : Key} {v : Value} (e : (mixKind P w).is k v = true) : Reads h v (kD k) [] := by
  rcases keyIs_shape (show keyIs k v = true from e) with ⟨i, t, rfl, rfl⟩ | ⟨x, t, rfl, rfl⟩
  · exact .int i t
  · exact .str x t
theorem pairs_read {P : Program} {w : World} {h : Heap} : ∀ {es : List DictEntry} {vs : List (Key × Value)} {kvs : List (Key × V)},
    Pairs (mixKind P w) es vs → KV kvs vs →
    ReadsAll h (es.map (·.key)) (kvs.map fun p => kD p.1) [] ∧ es.map (·.val) = vs.map (·.2) ∧ Vals (kvs.map (·.2)) (vs.map (·.2))
  | _, _, _, .nil, .nil => ⟨.nil, rfl, .nil⟩
  | _, _, _, .cons h1 h2 t, .cons r rt => by
    obtain ⟨a, b, c⟩ := pairs_read (h := h) t rt
    refine ⟨?_, ?_, .cons r.2 c⟩
    · rw [← r.1] at h1
      exact ReadsAll.cons (key_read h1) a
    · rw [List.map_cons, List.map_cons, b, h2]
theorem zip_fst {α β : Type} {xs : List α} {ys : List β} (h : xs.length = ys.length) : (xs.zip ys).map (·.1) = xs := by
  rw [show (fun x : α × β => x.1) = Prod.fst from rfl]
  exact List.map_fst_zip (Nat.le_of_eq h)
theorem zip_snd {α β : Type} {xs : List α} {ys : List β} (h : xs.length = ys.length) : (xs.zip ys).map (·.2) = ys := by
  rw [show (fun x : α × β => x.2) = Prod.snd from rfl]
  exact List.map_snd_zip (Nat.le_of_eq h.symm)
theorem not_sys {a : Addr} {o : Obj} {vs : Array Value} {n : Nat} (sys : SysD X.base) (I : L2.Inv X pins σ H s) (h : s.heap.get? a = some o) (hc : o.data = .seq vs n) : sysModules ≠ a := by
  rintro rfl
  obtain ⟨mm, u, es, ep, hu, du, _⟩ := sys
  have := I.bk _ _ hu
  rw [h] at this
  cases this
  rw [hc] at du
  cases du
mutual
theorem Dd.reads (sys : SysD X.base) (I : Inv X pins σ H s) : ∀ {v : V} {d : PyData}, Dd H v d → ∀ {u : Value}, RelV v u → ∃ as, Reads s.heap u d as ∧ sysModules ∉ as
  | _, _, .non, _, r => by cases r; exact ⟨_, .none, List.not_mem_nil⟩
  | _, _, .bl b, _, r => by cases r; exact ⟨_, .bool b, List.not_mem_nil⟩
  | _, _, .int i, _, r => by obtain ⟨t, rfl⟩ := r; exact ⟨_, .int i t, List.not_mem_nil⟩
  | _, _, .str x, _, r => by obtain ⟨t, rfl⟩ := r; exact ⟨_, .str x t, List.not_mem_nil⟩
  | _, _, .lst e h, _, r => by
    cases r
    obtain ⟨_, its, n, rv, ho⟩ := I.hok _ _ e
    obtain ⟨as, q, ns⟩ := DdAll.reads sys I h rv
    refine ⟨_, Reads.list ho rfl rfl q, ?_⟩
    intro z
    rcases List.mem_cons.mp z with z | z
    · exact not_sys sys I ho rfl z
    · exact ns z
  | _, _, .tup e h, _, r => by
    cases r
    obtain ⟨_, its, rv, o, ho, hc, n, hd⟩ := I.hok _ _ e
    obtain ⟨as, q, ns⟩ := DdAll.reads sys I h rv
    exact ⟨_, Reads.tuple ho hc hd q, ns⟩
  | _, _, .dic (kvs := kvs) (ds := ds) e h, _, r => by
    cases r
    obtain ⟨_, hne, vs, kv, o, es, ep, ho, hx, hd, _, hp, _⟩ := I.hok _ _ e
    obtain ⟨rk, hv, rvs⟩ := pairs_read (h := s.heap) hp kv
    obtain ⟨bs, q, ns⟩ := DdAll.reads sys I h rvs
    have hl : (kvs.map fun p => kD p.1).length = ds.length := by
      rw [h.length, List.length_map, List.length_map]
    refine ⟨_, Reads.dict (as := []) (bs := bs) ho hx.1 hd ?_ ?_, ?_⟩
    · rw [zip_fst hl]; exact rk
    · rw [zip_snd hl, hv]; exact q
    · intro z
      rcases List.mem_cons.mp (show sysModules ∈ _ :: bs from z) with z | z
      · rw [z] at hne
        simp at hne
      · exact ns z
theorem DdAll.reads (sys : SysD X.base) (I : Inv X pins σ H s) : ∀ {vs : List V} {ds : List PyData}, DdAll H vs ds → ∀ {us : List Value}, Vals vs us → ∃ as, ReadsAll s.heap us ds as ∧ sysModules ∉ as
  | _, _, .nil, _, r => by cases r; exact ⟨_, .nil, List.not_mem_nil⟩
  | _, _, .cons a b, _, r => by
    cases r with
    | cons r1 r2 =>
      obtain ⟨as, q1, n1⟩ := Dd.reads sys I a r1
      obtain ⟨bs, q2, n2⟩ := DdAll.reads sys I b r2
      refine ⟨_, .cons q1 q2, ?_⟩
      intro z
      rcases List.mem_append.mp z with z | z
      · exact n1 z
      · exact n2 z
end
/-- repr(x) -/
theorem call_repr (gd : X.A.guards = some []) (hu : X.A.units + 100 < cLine) (sys : SysD X.base) :
    CallR X (.builtin "repr") (fun xs H Q => ∃ x d, xs = [x] ∧ Dd H x d ∧ d.showable = true ∧ d.depth ≤ 60 ∧ d.shown.length ≤ sizeLine ∧ Q (.str d.shown) H) := by
  rintro pins s σ H xs us Q I r ⟨x, d, rfl, hd, hs, hdep, hz, q⟩
  obtain ⟨u, rfl, r1⟩ := vals1 r
  have fin : ∀ h' v tk, (∀ b o, s.heap.get? b = some o → h'.get? b = some o) →
      EP X pins σ Q (.str d.shown v) { s with heap := h', toks := tk } := fun h' v tk hk => ⟨.str d.shown, H, I.kept hk, ⟨v, rfl⟩, q⟩
  obtain ⟨as, rd, ns⟩ := Dd.reads sys I hd r1
  cases rd with
  | none => exact PySem.P.repr_of_none (fin s.heap s.toks (s.toks + 1) fun _ _ e => e)
  | bool b => exact PySem.P.repr_of_bool (fin s.heap s.toks (s.toks + 1) fun _ _ e => e)
  | int i t => exact PySem.P.repr_of_int (of_decide_eq_true hs) (fin s.heap s.toks (s.toks + 1) fun _ _ e => e)
  | str z t => exact PySem.P.repr_of_str (fin s.heap s.toks (s.toks + 1) fun _ _ e => e) hz
  | list h1 h2 h3 h4 => exact repr_of_reads' (.list h1 h2 h3 h4) hs (fun _ => ns) gd (by omega) (fun _ _ e => e) fin hz
  | tuple h1 h2 h3 h4 => exact repr_of_reads' (.tuple h1 h2 h3 h4) hs (fun _ => ns) gd (by omega) (fun _ _ e => e) fin hz
  | dict h1 h2 h3 h4 h5 => exact repr_of_reads' (.dict h1 h2 h3 h4 h5) hs (fun _ => ns) gd (by omega) (fun _ _ e => e) fin hz
end
end MG

namespace MG
open PySem PySem.Spec PyProof.Rows L2

/-- v is data in H: at most n deep, its repr at most c signs -/
def Da (H : Hp) (n c : Nat) (v : V) : Prop := ∃ d, Dd H v d ∧ d.showable = true ∧ d.depth ≤ n ∧ d.shown.length ≤ c
theorem Da.same {H H' : Hp} {n c : Nat} {v : V} (s : Same H H') (h : Da H n c v) : Da H' n c v := by
  obtain ⟨d, a, b⟩ := h
  exact ⟨d, a.same s, b⟩
theorem Da.le {H : Hp} {n c n' c' : Nat} {v : V} (h : Da H n c v) (hn : n ≤ n') (hc : c ≤ c') : Da H n' c' v := by
  obtain ⟨d, a, b, e, f⟩ := h
  exact ⟨d, a, b, Nat.le_trans e hn, Nat.le_trans f hc⟩
theorem Da.non {H : Hp} : Da H 0 4 .non := ⟨.none, .non, rfl, Nat.le_refl _, by decide +kernel⟩
theorem Da.bl {H : Hp} (b : Bool) : Da H 0 5 (.bl b) := ⟨.bool b, .bl b, rfl, Nat.le_refl _, by cases b <;> decide +kernel⟩
theorem int_len {i : Int} {k : Nat} (hk : 0 < k) (h : i.natAbs < 2 ^ k) : (Str.ofString (toString i)).length ≤ k + 1 := by
  rw [PySem.ofString_length]
  refine int_text_length_le hk ?_
  by_cases h0 : i.natAbs = 0
  · rw [h0]; exact Nat.lt_of_le_of_lt (by decide) hk
  · exact (Nat.log2_lt h0).mpr h
theorem Da.int {H : Hp} {i : Int} (h : i.natAbs < 2 ^ 300) : Da H 0 301 (.int i) := by
  refine ⟨.int i, .int i, ?_, Nat.le_refl _, int_len (by decide) h⟩
  show decide (i.natAbs.log2 < 1920) = true
  refine decide_eq_true ?_
  by_cases h0 : i.natAbs = 0
  · rw [h0]; decide
  · exact Nat.lt_of_lt_of_le ((Nat.log2_lt h0).mpr h) (by decide)
theorem Da.str {H : Hp} (x : Str) {c : Nat} (h : (reprText x).length ≤ c) : Da H 0 c (.str x) := ⟨.str x, .str x, rfl, Nat.le_refl _, h⟩

theorem das {H : Hp} {n c : Nat} : ∀ {xs : List V}, (∀ x ∈ xs, Da H n c x) →
    ∃ ds, DdAll H xs ds ∧ PyData.showableAll ds = true ∧ PyData.depthAll ds ≤ n ∧ piled (PyData.shownAll ds) ≤ xs.length * (c + 2)
  | [], _ => ⟨[], .nil, rfl, Nat.zero_le _, by rw [PyData.shownAll, piled_nil]; exact Nat.zero_le _⟩
  | x :: xs, h => by
    obtain ⟨d, a, b, e, f⟩ := h x List.mem_cons_self
    obtain ⟨ds, a2, b2, e2, f2⟩ := das (xs := xs) fun y hy => h y (List.mem_cons_of_mem _ hy)
    refine ⟨d :: ds, .cons a a2, ?_, ?_, ?_⟩
    · rw [PyData.showableAll, b, b2]; rfl
    · rw [PyData.depthAll]; exact Nat.max_le.mpr ⟨e, e2⟩
    · rw [PyData.shownAll, piled_cons, List.length_cons, Nat.add_mul, Nat.one_mul]
      omega
theorem tupleText_le (ts : List Str) : (tupleText ts).length ≤ piled ts + 3 := by
  unfold tupleText
  rw [strLen_append, strLen_append]
  have h1 : ("(" : Str).length = 1 := rfl
  have h2 : (Str.ofString (if (ts.length == 1) = true then ",)" else ")")).length ≤ 2 := by
    cases ts.length == 1 <;> decide +kernel
  have h3 : (Str.join ", " ts).length ≤ piled ts := by
    cases ts with
    | nil => decide +kernel
    | cons t r =>
      have := join_length_add (t :: r) (List.cons_ne_nil _ _)
      omega
  have h4 : ((if (ts.length == 1) = true then ",)" else ")" : String) : Str).length ≤ 2 := h2
  omega
theorem dictText_le (ts : List Str) : (dictText ts).length ≤ piled ts + 3 := by
  unfold dictText
  rw [strLen_append, strLen_append]
  have h1 : ("{" : Str).length = 1 := rfl
  have h2 : ("}" : Str).length = 1 := rfl
  have h3 : (Str.join ", " ts).length ≤ piled ts := by
    cases ts with
    | nil => decide +kernel
    | cons t r =>
      have := join_length_add (t :: r) (List.cons_ne_nil _ _)
      omega
  omega
theorem listText_le (ts : List Str) : (listText ts).length ≤ piled ts + 3 := by
  unfold listText
  rw [strLen_append]
  have h2 : ("]" : Str).length = 1 := rfl
  cases ts with
  | nil => decide +kernel
  | cons t r =>
    have e : (textFrom 0 "[" (t :: r)) = textFrom 1 (("[" : Str) ++ (if (0 : Nat) > 0 then ", " else "" : String) ++ t) r := rfl
    rw [e, textFrom_length_pos _ _ _ Nat.one_pos, strLen_append, strLen_append, piled_cons]
    have h1 : ("[" : Str).length = 1 := rfl
    have h3 : ((if (0 : Nat) > 0 then ", " else "" : String) : Str).length = 0 := by decide +kernel
    omega
theorem Da.tup {H : Hp} {n c m : Nat} {a : Addr} {xs : List V} (e : H a = some (.tup xs)) (h : ∀ x ∈ xs, Da H n c x) (hm : xs.length ≤ m) :
    Da H (n + 1) (m * (c + 2) + 3) (.ref a) := by
  obtain ⟨ds, a1, b1, e1, f1⟩ := das h
  refine ⟨.tuple ds, .tup e a1, b1, Nat.succ_le_succ e1, ?_⟩
  have h1 := tupleText_le (PyData.shownAll ds)
  have h2 : xs.length * (c + 2) ≤ m * (c + 2) := Nat.mul_le_mul_right _ hm
  show (tupleText (PyData.shownAll ds)).length ≤ _
  omega
theorem Da.lst {H : Hp} {n c m : Nat} {a : Addr} {xs : List V} (e : H a = some (.lst xs)) (h : ∀ x ∈ xs, Da H n c x) (hm : xs.length ≤ m) :
    Da H (n + 1) (m * (c + 2) + 3) (.ref a) := by
  obtain ⟨ds, a1, b1, e1, f1⟩ := das h
  refine ⟨.list ds, .lst e a1, b1, Nat.succ_le_succ e1, ?_⟩
  have h1 := listText_le (PyData.shownAll ds)
  have h2 : xs.length * (c + 2) ≤ m * (c + 2) := Nat.mul_le_mul_right _ hm
  show (listText (PyData.shownAll ds)).length ≤ _
  omega
theorem Da.dic0 {H : Hp} {a : Addr} (e : H a = some (.dK [])) : Da H 1 3 (.ref a) :=
  ⟨.dict [], .dic e .nil, rfl, by decide, by decide +kernel⟩
theorem Da.dic1 {H : Hp} {n c : Nat} {a : Addr} {k : Str} {v : V} (e : H a = some (.dK [(.inr k, v)])) (h : Da H n c v) (hk : (reprText k).length ≤ 5) :
    Da H (n + 1) (c + 12) (.ref a) := by
  obtain ⟨d, a1, b1, e1, f1⟩ := h
  refine ⟨.dict [(.str k, d)], .dic e (.cons a1 .nil), ?_, ?_, ?_⟩
  · show (true && d.showable && true) = true
    rw [b1]; rfl
  · show max (max 0 d.depth) 0 + 1 ≤ n + 1
    omega
  · have h1 := dictText_le (PyData.shownKv [(.str k, d)])
    have h2 : PyData.shownKv [(.str k, d)] = [reprText k ++ ": " ++ d.shown] := rfl
    rw [h2] at h1
    show (dictText (PyData.shownKv [(.str k, d)])).length ≤ _
    rw [h2]
    have h3 : (reprText k ++ ": " ++ d.shown).length = (reprText k).length + 2 + d.shown.length := by
      rw [strLen_append, strLen_append]; rfl
    rw [piled_cons, piled_nil, h3] at h1
    omega
end MG

namespace MG
open PySem PySem.Spec PyProof.Rows L2

/-! ### f(a=.., b=..): every parameter by its name, in the def's order -/
def KB (K : PySem.W.Frag) (fd : FuncData) (ps : List Str) : Prop :=
  ∀ (s : Shared) (us : List Value), K.In s.heap → us.length = ps.length → BindsTo s fd ⟨[], ps.zip us⟩ (ps.zip us)
theorem kb_of {K : PySem.W.Frag} {x qual : Str} {st : Stmt} {f : Addr} {fd : FuncData} {ps : List Str} (F : Fun K x qual st f fd)
    (h : ∀ (kV doc pm : Value) (an : Option Addr) (cdv ct : Value) (us : List Value), us.length = ps.length →
      bindArgs (PySem.W.fnOf x qual (defArgs st) (defBody st) (defScope st) .none kV doc pm an cdv ct) ⟨[], ps.zip us⟩ = pure (ps.zip us)) : KB K fd ps := by
  obtain ⟨oc, od, kV, doc, pm, an, cdv, ct, osl, rfl, lk, hcd⟩ := F.ex
  exact fun s us _ hl => .of_eq (h kV doc pm an cdv ct us hl)
def tCallN (sp : Sp) (E : XK) (tk : TA) : TE := fun σ H Q => tk σ H fun zs H2 => sp zs H2 Q E
theorem pe_callN {X : Cx} {k : Nat} {f : Addr} {fd : FuncData} {ps : List Str} {sp : Sp} {E : XK} {x : Str} {p pos : Pos} {kws : List Keyword} {tk : TA}
    (F : FnOk X.prog X.w X.K X.mg X.base CX0 k f fd ps sp) (hr : Room k X.A) (hg : Gl X x)
    (hm : X.mg x = some (.ref f)) (hk : PySem.W.keepIn X.K (.ref f) = true) (hb : KB X.K fd ps) (hkw : PK X kws tk)
    (hall : (backToKw pos (keywordEach kws X.env)).all (·.1.isSome) = true := by rfl)
    (hks : (backToKw pos (keywordEach kws X.env)).filterMap (·.1) = ps := by rfl)
    (hdb : (x == ("__debug__" : Str)) = false := by decide)
    (hpl : ((backTo pos (starEach [] X.env)).any (·.1) || (backToKw pos (keywordEach kws X.env)).any (·.1.isNone)) = false := by rfl) :
    PE X (.Call (.Name x p) [] kws pos) (tCallN sp E tk) := by
  constructor
  intro pins s σ H Q I h
  refine wpAny_Call_Name_kw (ld_glob I hg hm ?_ hdb)
  refine PySem.W.callWith_KW0 (h₀ := X.base) I.ok.mod.kin hk hall (thn (hkw.run pos pins s σ H _ I h) ?_) hpl
  rintro us s1 ⟨vs, H1, I1, r, q⟩
  refine ⟨I1.kIn, ?_⟩
  rw [hks]
  have hl : us.length = ps.length := by
    rw [← r.length]
    exact F.len _ _ _ _ q
  refine wpAny_call (codeAny_mono (F.run X.A X.stack s1 H1 ⟨[], ps.zip us⟩ us vs Q E hr I1.env0 (hb s1 us I1.kIn hl) r q) ?_)
  intro res s' hq
  cases res with
  | error e => exact False.elim hq
  | ok fl =>
    cases fl with
    | ret u => exact I1.after hq
    | next => exact False.elim hq
    | brk => exact False.elim hq
    | cont => exact False.elim hq

/-! ### isinstance of data -/
def tyN : PyData → String
  | .none => "NoneType"
  | .bool _ => "bool"
  | .int _ => "int"
  | .str _ => "str"
  | .list _ => "list"
  | .tuple _ => "tuple"
  | .dict _ => "dict"
theorem Dd.ty {K : PySem.W.Frag} {H : Hp} {v : V} {d : PyData} (h : Dd H v d) : TyX K H v (.type (tyN d)) := by
  cases h with
  | non => exact .base .non
  | bl b => exact .base (.bl b)
  | int i => exact .base (.int i)
  | str x => exact .base (.str x)
  | lst e _ => exact .base (.lst e)
  | tup e _ => exact .base (.tup e)
  | dic e _ => exact .base (.dK e)
def isIntD : PyData → Bool
  | .int _ | .bool _ => true
  | _ => false
def isBoolD : PyData → Bool
  | .bool _ => true
  | _ => false
def isTupD : PyData → Bool
  | .tuple _ => true
  | _ => false
theorem kit_int (K : PySem.W.Frag) (d : PyData) : PySem.W.kitOne K (.type (tyN d)) (.type "int") = some (isIntD d) := by
  cases d with
  | none => exact kit_ty (a := "NoneType") (b := "int") (r := false) (by decide +kernel)
  | bool _ => exact kit_ty (a := "bool") (b := "int") (r := true) (by decide +kernel)
  | int _ => exact kit_ty (a := "int") (b := "int") (r := true) (by decide +kernel)
  | str _ => exact kit_ty (a := "str") (b := "int") (r := false) (by decide +kernel)
  | list _ => exact kit_ty (a := "list") (b := "int") (r := false) (by decide +kernel)
  | tuple _ => exact kit_ty (a := "tuple") (b := "int") (r := false) (by decide +kernel)
  | dict _ => exact kit_ty (a := "dict") (b := "int") (r := false) (by decide +kernel)
theorem kit_bool (K : PySem.W.Frag) (d : PyData) : PySem.W.kitOne K (.type (tyN d)) (.type "bool") = some (isBoolD d) := by
  cases d with
  | none => exact kit_ty (a := "NoneType") (b := "bool") (r := false) (by decide +kernel)
  | bool _ => exact kit_ty (a := "bool") (b := "bool") (r := true) (by decide +kernel)
  | int _ => exact kit_ty (a := "int") (b := "bool") (r := false) (by decide +kernel)
  | str _ => exact kit_ty (a := "str") (b := "bool") (r := false) (by decide +kernel)
  | list _ => exact kit_ty (a := "list") (b := "bool") (r := false) (by decide +kernel)
  | tuple _ => exact kit_ty (a := "tuple") (b := "bool") (r := false) (by decide +kernel)
  | dict _ => exact kit_ty (a := "dict") (b := "bool") (r := false) (by decide +kernel)
theorem kit_tuple (K : PySem.W.Frag) (d : PyData) : PySem.W.kitOne K (.type (tyN d)) (.type "tuple") = some (isTupD d) := by
  cases d with
  | none => exact kit_ty (a := "NoneType") (b := "tuple") (r := false) (by decide +kernel)
  | bool _ => exact kit_ty (a := "bool") (b := "tuple") (r := false) (by decide +kernel)
  | int _ => exact kit_ty (a := "int") (b := "tuple") (r := false) (by decide +kernel)
  | str _ => exact kit_ty (a := "str") (b := "tuple") (r := false) (by decide +kernel)
  | list _ => exact kit_ty (a := "list") (b := "tuple") (r := false) (by decide +kernel)
  | tuple _ => exact kit_ty (a := "tuple") (b := "tuple") (r := true) (by decide +kernel)
  | dict _ => exact kit_ty (a := "dict") (b := "tuple") (r := false) (by decide +kernel)
end MG

/-! MG: twos, greatest common parts -/
namespace MG
open PySem

/-- how often 2 parts n (0 of 0) -/
def v2 (n : Nat) : Nat := if h : n = 0 then 0 else if n % 2 = 1 then 0 else v2 (n / 2) + 1
termination_by n
decreasing_by omega
theorem v2_odd {n : Nat} (h : n % 2 = 1) : v2 n = 0 := by
  rw [v2]
  simp [h]
theorem v2_even {n : Nat} (h0 : n ≠ 0) (h : n % 2 = 0) : v2 n = v2 (n / 2) + 1 := by
  rw [v2]
  rw [dif_neg h0, if_neg (by omega)]
theorem v2_mul2 {n : Nat} (h0 : n ≠ 0) : v2 (2 * n) = v2 n + 1 := by
  rw [v2_even (by omega) (by omega), show 2 * n / 2 = n by omega]
/-- n & (n - 1) takes the last one away -/
theorem land_pred : ∀ n : Nat, 0 < n → (n &&& (n - 1)) + 2 ^ v2 n = n := by
  intro n
  induction n using Nat.strongRecOn with
  | ind n ih =>
    intro hn
    have hd : (n &&& (n - 1)) / 2 = n / 2 &&& (n - 1) / 2 := Nat.and_div_two ..
    have hm := Nat.and_mod_two_eq_one (a := n) (b := n - 1)
    have hsplit := Nat.div_add_mod (n &&& (n - 1)) 2
    rcases Nat.mod_two_eq_zero_or_one n with h | h
    · have h2 : (n - 1) / 2 = n / 2 - 1 := by omega
      have hq : 0 < n / 2 := by omega
      have := ih (n / 2) (by omega) hq
      rw [h2] at hd
      have hz : (n &&& (n - 1)) % 2 = 0 := by
        rcases Nat.mod_two_eq_zero_or_one (n &&& (n - 1)) with z | z
        · exact z
        · have := (hm.mp z).1
          omega
      rw [v2_even (by omega) h, Nat.pow_succ]
      omega
    · have h2 : (n - 1) / 2 = n / 2 := by omega
      rw [h2, Nat.and_self] at hd
      have hz : (n &&& (n - 1)) % 2 = 0 := by
        rcases Nat.mod_two_eq_zero_or_one (n &&& (n - 1)) with z | z
        · exact z
        · have := (hm.mp z).2
          omega
      rw [v2_odd h]
      show _ + 1 = n
      omega
theorem low_bit {n : Int} (h : 0 < n) : Builtin.bitAnd n (-n) = 2 ^ v2 n.toNat := by
  have e : Builtin.bitNot (-n) = n - 1 := by
    show -(-n) - 1 = n - 1
    omega
  rw [PyProof.Rows.bitAnd_pn (by omega) (by omega), e]
  have h1 := land_pred n.toNat (by omega)
  have h2 : (n - 1).toNat = n.toNat - 1 := by omega
  rw [h2]
  have h3 : ((n.toNat &&& (n.toNat - 1) : Nat) : Int) + ((2 ^ v2 n.toNat : Nat) : Int) = n := by
    rw [← Int.natCast_add, h1]
    omega
  rw [show ((2 ^ v2 n.toNat : Nat) : Int) = 2 ^ v2 n.toNat from by rw [Int.natCast_pow]; rfl] at h3
  omega
theorem bits_pow (k : Nat) : (Builtin.Int.intBits ((2 : Int) ^ k) : Nat) = k + 1 := by
  unfold Builtin.Int.intBits
  have h0 : ((2 : Int) ^ k == 0) = false := by
    refine beq_eq_false_iff_ne.mpr ?_
    have : (0 : Int) < 2 ^ k := Int.pow_pos (by decide)
    omega
  rw [h0]
  have h1 : ((2 : Int) ^ k).natAbs = 2 ^ k := by
    rw [Int.natAbs_pow]
    rfl
  rw [if_neg Bool.false_ne_true, h1, Nat.log2_two_pow]
theorem pow_v2_dvd : ∀ n : Nat, 2 ^ v2 n ∣ n := by
  intro n
  induction n using Nat.strongRecOn with
  | ind n ih =>
    by_cases h0 : n = 0
    · subst h0; exact Nat.dvd_zero _
    · rcases Nat.mod_two_eq_zero_or_one n with h | h
      · rw [v2_even h0 h, Nat.pow_succ]
        have h1 := ih (n / 2) (by omega)
        have h2 : n = n / 2 * 2 := by omega
        rw [h2]
        exact Nat.mul_dvd_mul_right (by rw [show n / 2 * 2 / 2 = n / 2 by omega]; exact h1) 2
      · rw [v2_odd h]; exact Nat.one_dvd _
theorem v2_unique {n k m : Nat} (h : n = 2 ^ k * m) (hm : m % 2 = 1) : v2 n = k := by
  induction k generalizing n with
  | zero =>
    rw [Nat.pow_zero, Nat.one_mul] at h
    rw [h]; exact v2_odd hm
  | succ k ih =>
    have h0 : 2 ^ k * m ≠ 0 := by
      intro z
      rcases Nat.mul_eq_zero.mp z with z | z
      · exact absurd z (Nat.pos_iff_ne_zero.mp (Nat.two_pow_pos k))
      · omega
    rw [h, Nat.pow_succ, Nat.mul_comm (2 ^ k) 2, Nat.mul_assoc, v2_mul2 h0, ih rfl]
theorem odd_rest {n : Nat} (h : 0 < n) : n / 2 ^ v2 n % 2 = 1 := by
  induction n using Nat.strongRecOn with
  | ind n ih =>
    rcases Nat.mod_two_eq_zero_or_one n with z | z
    · rw [v2_even (by omega) z, Nat.pow_succ, Nat.mul_comm, ← Nat.div_div_eq_div_mul]
      exact ih (n / 2) (by omega) (by omega)
    · rw [v2_odd z, Nat.pow_zero, Nat.div_one]; exact z
theorem v2_split {n : Nat} (h : 0 < n) : n = 2 ^ v2 n * (n / 2 ^ v2 n) := (Nat.mul_div_cancel' (pow_v2_dvd n)).symm
theorem pow_dvd_iff {n k : Nat} (h : 0 < n) : 2 ^ k ∣ n ↔ k ≤ v2 n := by
  constructor
  · intro hd
    refine Nat.le_of_not_lt fun hlt => ?_
    have h1 : 2 ^ (v2 n + 1) ∣ n := Nat.dvd_trans (Nat.pow_dvd_pow 2 hlt) hd
    obtain ⟨c, hc⟩ := h1
    have h2 := odd_rest h
    have h3 : n / 2 ^ v2 n = 2 * c := by
      rw [hc]
      rw [← hc]
      have : n = 2 ^ v2 n * (2 * c) := by rw [← Nat.mul_assoc, ← Nat.pow_succ]; exact hc
      exact Nat.div_eq_of_eq_mul_right (Nat.two_pow_pos _) this
    omega
  · intro hk
    exact Nat.dvd_trans (Nat.pow_dvd_pow 2 hk) (pow_v2_dvd n)

/-- the greatest number that parts all -/
def gl : List Int → Nat
  | [] => 0
  | n :: r => Nat.gcd n.toNat (gl r)
theorem gl_append : ∀ (a b : List Int), gl (a ++ b) = Nat.gcd (gl a) (gl b)
  | [], b => by rw [List.nil_append, gl, Nat.gcd_zero_left]
  | n :: r, b => by rw [List.cons_append, gl, gl_append r b, gl, Nat.gcd_assoc]
theorem gl_perm {a b : List Int} (h : a.Perm b) : gl a = gl b := by
  induction h with
  | nil => rfl
  | cons x _ ih => rw [gl, gl, ih]
  | swap x y l => rw [gl, gl, gl, gl, ← Nat.gcd_assoc, ← Nat.gcd_assoc, Nat.gcd_comm y.toNat x.toNat]
  | trans _ _ ih1 ih2 => rw [ih1, ih2]
theorem gl_zeros : ∀ k : Nat, gl (List.replicate k 0) = 0
  | 0 => rfl
  | k + 1 => by rw [List.replicate_succ, gl, gl_zeros k]; rfl
theorem gl_dvd : ∀ {l : List Int} {n : Int}, n ∈ l → gl l ∣ n.toNat
  | m :: r, n, h => by
    rcases List.mem_cons.mp h with rfl | h
    · exact Nat.gcd_dvd_left _ _
    · exact Nat.dvd_trans (Nat.gcd_dvd_right _ _) (gl_dvd h)
theorem gl_pos : ∀ {l : List Int} {n : Int}, n ∈ l → 0 < n → 0 < gl l := fun {l n} h hn =>
  Nat.pos_of_ne_zero fun z => by
    have := gl_dvd h
    rw [z] at this
    have := Nat.eq_zero_of_zero_dvd this
    omega
theorem gl_le {l : List Int} {n : Int} (h : n ∈ l) (hn : 0 < n) : (gl l : Int) ≤ n := by
  have := Nat.le_of_dvd (by omega) (gl_dvd h)
  omega
theorem gl_mul (c : Int) (hc : 0 ≤ c) : ∀ {l : List Int}, (∀ n ∈ l, 0 ≤ n) → gl (l.map fun n => c * n) = c.toNat * gl l
  | [], _ => rfl
  | n :: r, h => by
    rw [List.map_cons, gl, gl, gl_mul c hc fun m hm => h m (List.mem_cons_of_mem _ hm), ← Nat.gcd_mul_left, Int.toNat_mul hc (h n List.mem_cons_self)]
theorem gl_filter : ∀ l : List Int, gl (l.filter fun n => decide (n > 0)) = gl l
  | [] => rfl
  | n :: r => by
    by_cases h : n > 0
    · rw [List.filter_cons_of_pos (by simpa using h), gl, gl, gl_filter r]
    · rw [List.filter_cons_of_neg (by simpa using h), gl_filter r, gl, show n.toNat = 0 by omega, Nat.gcd_zero_left]
/-- how many are parted by 2 no oftener than t -/
def fewT (t : Nat) (l : List Int) : List Int := l.filter fun n => decide (n > 0) && decide (v2 n.toNat ≤ t)
theorem fewT_perm {t : Nat} {a b : List Int} (h : a.Perm b) : (fewT t a).length = (fewT t b).length := (h.filter _).length_eq
theorem fewT_zeros (t k : Nat) : fewT t (List.replicate k 0) = [] := by
  unfold fewT
  refine List.filter_eq_nil_iff.mpr fun n hn => ?_
  rw [List.eq_of_mem_replicate hn]
  simp
end MG

/-! MG: runs of two, by doubling by rests -/
namespace MG
/-- both parted by the greatest number that parts each -/
def shares (a b : Nat) : Nat := (a + b) / Nat.gcd a b
def due (a b : Nat) : Option Nat := if shares a b / 2 ^ v2 (shares a b) > 1 then none else some (v2 (shares a b))
theorem gcd_rest {a b : Nat} : Nat.gcd a b = Nat.gcd a (a + b) := by rw [Nat.gcd_self_add_right]
theorem gcd_pow_two {f S : Nat} (hS : 0 < S) : Nat.gcd (2 ^ f) S = 2 ^ min f (v2 S) := by
  have hm := odd_rest hS
  have e := v2_split hS
  generalize hmm : S / 2 ^ v2 S = m at hm e
  generalize v2 S = t at e ⊢
  subst e
  have cop : Nat.Coprime (2 ^ f) m := by
    refine Nat.Coprime.pow_left f ?_
    rw [Nat.coprime_iff_gcd_eq_one, Nat.gcd_rec, hm]
    rfl
  rw [Nat.Coprime.gcd_mul_right_cancel_right (2 ^ t) cop.symm]
  by_cases h : f ≤ t
  · rw [Nat.min_eq_left h]
    exact Nat.gcd_eq_left (Nat.pow_dvd_pow 2 h)
  · rw [Nat.min_eq_right (by omega)]
    exact Nat.gcd_eq_right (Nat.pow_dvd_pow 2 (by omega))
section
variable {a b : Nat} (ha : 0 < a) (hb : 0 < b)
include ha hb
theorem shares_pos : 0 < shares a b := by
  have h1 : Nat.gcd a b ≤ a := Nat.le_of_dvd ha (Nat.gcd_dvd_left _ _)
  exact Nat.div_pos (by omega) (Nat.gcd_pos_of_pos_left _ ha)
theorem shares_mul : shares a b * Nat.gcd a b = a + b := by
  unfold shares
  refine Nat.div_mul_cancel ?_
  exact Nat.dvd_add (Nat.gcd_dvd_left _ _) (Nat.gcd_dvd_right _ _)
theorem shares_coprime : Nat.Coprime (a / Nat.gcd a b) (shares a b) := by
  have hg : 0 < Nat.gcd a b := Nat.gcd_pos_of_pos_left _ ha
  have h1 : shares a b = a / Nat.gcd a b + b / Nat.gcd a b := by
    unfold shares
    refine Nat.div_eq_of_eq_mul_right hg ?_
    rw [Nat.mul_add, Nat.mul_div_cancel' (Nat.gcd_dvd_left _ _), Nat.mul_div_cancel' (Nat.gcd_dvd_right _ _)]
  rw [h1, Nat.coprime_iff_gcd_eq_one, Nat.gcd_self_add_right]
  exact Nat.coprime_div_gcd_div_gcd hg
theorem gcd_doubled (f : Nat) : Nat.gcd (a * 2 ^ f) (a + b) = Nat.gcd a b * Nat.gcd (2 ^ f) (shares a b) := by
  have hg : 0 < Nat.gcd a b := Nat.gcd_pos_of_pos_left _ ha
  have e1 : a = Nat.gcd a b * (a / Nat.gcd a b) := (Nat.mul_div_cancel' (Nat.gcd_dvd_left _ _)).symm
  have e2 : a + b = Nat.gcd a b * shares a b := by rw [Nat.mul_comm]; exact (shares_mul ha hb).symm
  have c := shares_coprime ha hb
  generalize shares a b = S at e2 c ⊢
  rw [e2]
  generalize Nat.gcd a b = g at e1 c ⊢
  generalize a / g = A at e1 c
  subst e1
  rw [Nat.mul_assoc, Nat.gcd_mul_left, Nat.Coprime.gcd_mul_left_cancel _ c]
/-- what is left of the first one -/
theorem rest_pos {f : Nat} (h : due a b = none ∨ ∃ d, due a b = some d ∧ f < d) : 0 < a * 2 ^ f % (a + b) := by
  refine Nat.pos_of_ne_zero fun z => ?_
  have hd : (a + b) ∣ a * 2 ^ f := Nat.dvd_of_mod_eq_zero z
  have hS := shares_pos ha hb
  have e : Nat.gcd (a * 2 ^ f) (a + b) = a + b := Nat.gcd_eq_right hd
  rw [gcd_doubled ha hb, gcd_pow_two hS] at e
  have e2 := shares_mul ha hb
  have hg : 0 < Nat.gcd a b := Nat.gcd_pos_of_pos_left _ ha
  have e3 : 2 ^ min f (v2 (shares a b)) = shares a b := by
    rw [← e2, Nat.mul_comm] at e
    exact Nat.eq_of_mul_eq_mul_right hg e
  have hv : v2 (shares a b) = min f (v2 (shares a b)) := v2_unique (m := 1) (by rw [Nat.mul_one]; exact e3.symm) rfl
  have hle : v2 (shares a b) ≤ f := by omega
  have hone : shares a b / 2 ^ v2 (shares a b) = 1 := by
    rw [hv, e3]
    exact Nat.div_self hS
  have hdue : due a b = some (v2 (shares a b)) := by
    unfold due
    rw [if_neg (by rw [hone]; omega)]
  rcases h with h | ⟨d, h, hf⟩
  · rw [hdue] at h; cases h
  · rw [hdue] at h
    cases h
    omega
/-- how many deeds there are behind f of them -/
theorem due_rest {f : Nat} (hp : 0 < a * 2 ^ f % (a + b)) : due (a * 2 ^ f % (a + b)) (a + b - a * 2 ^ f % (a + b)) = (due a b).map (· - f) := by
  have hS := shares_pos ha hb
  have hlt : a * 2 ^ f % (a + b) < a + b := Nat.mod_lt _ (by omega)
  generalize hr : a * 2 ^ f % (a + b) = r at hp hlt ⊢
  have hg : Nat.gcd r (a + b - r) = Nat.gcd a b * 2 ^ min f (v2 (shares a b)) := by
    rw [gcd_rest, show r + (a + b - r) = a + b by omega, ← gcd_pow_two hS, ← gcd_doubled ha hb, ← hr]
    rw [Nat.gcd_comm (a * 2 ^ f), Nat.gcd_rec (a + b) (a * 2 ^ f)]
  have hS' : shares r (a + b - r) = shares a b / 2 ^ min f (v2 (shares a b)) := by
    show (r + (a + b - r)) / Nat.gcd r (a + b - r) = _
    rw [hg, show r + (a + b - r) = a + b by omega, ← Nat.div_div_eq_div_mul]
    rfl
  have e := v2_split hS
  have hm := odd_rest hS
  generalize hmm : shares a b / 2 ^ v2 (shares a b) = m at e hm
  have hS2 : shares r (a + b - r) = 2 ^ (v2 (shares a b) - min f (v2 (shares a b))) * m := by
    rw [hS']
    generalize v2 (shares a b) = t at e ⊢
    rw [e]
    refine Nat.div_eq_of_eq_mul_right (Nat.two_pow_pos _) ?_
    rw [← Nat.mul_assoc, ← Nat.pow_add, show min f t + (t - min f t) = t by omega]
  have hv : v2 (shares r (a + b - r)) = v2 (shares a b) - min f (v2 (shares a b)) := v2_unique hS2 hm
  have ho : shares r (a + b - r) / 2 ^ v2 (shares r (a + b - r)) = m := by
    rw [hv]
    exact Nat.div_eq_of_eq_mul_right (Nat.two_pow_pos _) hS2
  unfold due
  rw [ho, hv, hmm]
  by_cases h1 : m > 1
  · rw [if_pos h1, if_pos h1]; rfl
  · rw [if_neg h1, if_neg h1]
    refine congrArg some ?_
    show v2 (shares a b) - min f (v2 (shares a b)) = v2 (shares a b) - f
    omega
/-- the two rests are the whole -/
theorem rest_sum (f : Nat) : a * 2 ^ f % (a + b) = 0 ∧ b * 2 ^ f % (a + b) = 0 ∨ a * 2 ^ f % (a + b) + b * 2 ^ f % (a + b) = a + b := by
  have hs : 0 < a + b := by omega
  have h1 : (a * 2 ^ f + b * 2 ^ f) % (a + b) = 0 := by
    rw [← Nat.add_mul]
    exact Nat.mul_mod_right _ _
  rw [Nat.add_mod] at h1
  have l1 : a * 2 ^ f % (a + b) < a + b := Nat.mod_lt _ hs
  have l2 : b * 2 ^ f % (a + b) < a + b := Nat.mod_lt _ hs
  generalize a * 2 ^ f % (a + b) = x at h1 l1 ⊢
  generalize b * 2 ^ f % (a + b) = y at h1 l2 ⊢
  by_cases h : x + y < a + b
  · rw [Nat.mod_eq_of_lt h] at h1
    left; omega
  · right
    rw [Nat.mod_eq_sub_mod (by omega), Nat.mod_eq_of_lt (by omega)] at h1
    omega
end
end MG

namespace K06
open PySem PySem.Spec PyProof.Rows L2 MG
def topS (i : Nat) : Stmt := PySem.Challenge.pw_matchgift_k06_runs_of_thousands.main.body.getD i (.Pass ⟨0, 0, 0, 0⟩)
abbrev sBox : Stmt := topS 18
abbrev sTake : Stmt := topS 19
abbrev sOf : Stmt := topS 20
abbrev sTwosIn : Stmt := topS 4
abbrev sOddPart : Stmt := topS 5
abbrev sCommon : Stmt := topS 6
abbrev sWhole : Stmt := topS 8
theorem same_upd {H : Hp} {p : Addr} {o : HO} (h : H p = none) : Same H (upd H p o) := fun b x e => by
  rw [upd_ne (ne_of_none e h)]
  exact e
theorem scBox : FnScope ["_law_script", "_law_k", "_law_cell", "_law_own"] ["_law_script", "_law_k"] (defScope sBox) := ⟨rfl, rfl, rfl, by decide +kernel, rfl, by decide +kernel, by decide +kernel⟩
theorem scTake : FnScope ["_law_box_here", "_law_many", "_law_digit", "_law_mixed"] ["_law_box_here", "_law_many"] (defScope sTake) := ⟨rfl, rfl, rfl, by decide +kernel, rfl, by decide +kernel, by decide +kernel⟩
theorem scOf : FnScope ["_law_box_here", "_law_some"] ["_law_box_here", "_law_some"] (defScope sOf) := ⟨rfl, rfl, rfl, by decide +kernel, rfl, by decide +kernel, by decide +kernel⟩

def Box (H : Hp) (b : Addr) (n : Nat) : Prop := ∃ o m c : Int, H b = some (.lst [.int o, .int m, .int c]) ∧ 0 ≤ o ∧ o < 10 ^ 240 ∧ 0 ≤ m ∧ m < 2305843009213693921 ∧ 0 ≤ c ∧ c ≤ n
theorem Box.le {H : Hp} {b : Addr} {n n' : Nat} (h : Box H b n) (hn : n ≤ n') : Box H b n' := by
  obtain ⟨o, m, c, e, h1, h2, h3, h4, h5, h6⟩ := h
  exact ⟨o, m, c, e, h1, h2, h3, h4, h5, by omega⟩

theorem bit (b : Bool) : (-(2 ^ 64) : Int) < (if b = true then 1 else 0) ∧ (if b = true then (1 : Int) else 0) < 2 ^ 64 := by
  cases b <;> decide
theorem modb (x : Int) : (-(2 ^ 64) : Int) < x % 2305843009213693921 ∧ x % 2305843009213693921 < 2 ^ 64 := by
  have h1 := Int.emod_nonneg x (show (2305843009213693921 : Int) ≠ 0 by decide)
  have h2 := Int.emod_lt_of_pos x (show (0 : Int) < 2305843009213693921 by decide)
  omega
theorem own0 (x : Int) (b : Bool) : 0 ≤ x % 10 ^ 240 * (if b = true then 1 else 0) := by
  have := Int.emod_nonneg x (show (10 : Int) ^ 240 ≠ 0 by decide)
  cases b with
  | false => rw [if_neg Bool.false_ne_true]; omega
  | true => rw [if_pos rfl]; omega
theorem own1 (x : Int) (b : Bool) : x % 10 ^ 240 * (if b = true then 1 else 0) < 10 ^ 240 := by
  have := Int.emod_lt_of_pos x (show (0 : Int) < 10 ^ 240 by decide)
  cases b with
  | false => rw [if_neg Bool.false_ne_true, Int.mul_zero]; decide
  | true => rw [if_pos rfl, Int.mul_one]; exact this
section
variable {P : Program} {w : World} {K : PySem.W.Frag} {mg : Str → Option Value} {base : Heap}
def spBox (K : PySem.W.Frag) : Sp := fun vs H Q _ => ∃ (a : Addr) (ns : List Int) (k : Int), vs = [.ref a, .int k] ∧ SqL K H a (ns.map V.int) ∧ 0 ≤ k ∧ k ≤ 63 ∧
  ∀ p H', H p = none → Same H H' → Box H' p 0 → (∀ a, a ≠ p → H' a = H a) → Q (.ref p) H'
theorem ok_box {f : Addr} {fd : FuncData} {k : Nat} (F : Fun K "_law_box" "_law_box" sBox f fd) (ml : mg "len" = none) (mab : mg "abs" = none) (mI : mg "int" = none) :
    FnOk P w K mg base CX0 (k + 1) f fd ["_law_script", "_law_k"] (spBox K) := by
  refine F.ok scBox (fun vs H Q E h => ?_) (fun cdv A outer s H vs Q E hr h => ?_)
  · obtain ⟨a, ns, k, rfl, _⟩ := h
    rfl
  · obtain ⟨a, ns, k, rfl, hS, k0, k1, q⟩ := h
    refine ⟨_, pss_cons (ps_set (i := 2) scBox.nd rfl (.inl rfl) (pe_ifExp
          (pt_cmpR op_lt (pv 1) (pe_callB call_len_seq (by rfl) ml PySem.boot_len (pa_cons (pv 0) pa_nil)) (nomark _))
          (pe_ix ix_list (pv 0) (pv 1) (fun _ _ => rfl)) pe_int))
      (pss_cons (ps_set (i := 3) scBox.nd rfl (.inl rfl) (pe_op op_mul
          (pe_op op_mod (pe_callB call_abs (by rfl) mab (by decide +kernel) (pa_cons (pv 2) pa_nil))
            (pe_op op_mulW (pe_op op_mulW (pe_op op_mulW (pe_op op_pow pe_int pe_int) (pe_op op_pow pe_int pe_int)) (pe_op op_pow pe_int pe_int)) (pe_op op_pow pe_int pe_int)))
          (pe_callTy call_int1 (by rfl) mI (by decide +kernel) (pa_cons (pe_cmpR op_ge (pe_callB call_abs (by rfl) mab (by decide +kernel) (pa_cons (pv 2) pa_nil)) (pe_op op_pow pe_int pe_int) (nomark _)) pa_nil))))
      (pss_one (ps_ret (pe_lst (pa_cons (pv 3) (pa_cons
          (pe_op op_mod (pe_op op_mul (pe_op op_add (pe_op op_add (pe_op op_mod (pv 2) pe_int) (pe_op op_mul (pe_op op_mul pe_int (pv 1)) (pv 1))) pe_int) pe_int) pe_int)
          (pa_cons pe_int pa_nil))))))), ?_⟩
    have fin : ∀ o : Int, 0 ≤ o → o < 10 ^ 240 → ∀ m : Int, 0 ≤ m → m < 2305843009213693921 → ∀ p, H p = none → Q (.ref p) (upd H p (.lst [.int o, .int m, .int 0])) := by
      intro o o0 o1 m m0 m1 p hp
      refine q p _ hp (same_upd hp) ⟨o, m, 0, upd_same, o0, o1, m0, m1, by omega, by omega⟩ ?_
      intro a ha
      exact upd_ne ha
    have kk : (-(2 ^ 64) : Int) < k ∧ k < 2 ^ 64 := ⟨by omega, by omega⟩
    have w1 : CMulW ((10 : Int) ^ (60 : Int).toNat) (10 ^ (60 : Int).toNat) := by unfold CMulW; decide +kernel
    have w2 : CMulW ((10 : Int) ^ (60 : Int).toNat * 10 ^ (60 : Int).toNat) (10 ^ (60 : Int).toNat) := by unfold CMulW; decide +kernel
    have w3 : CMulW ((10 : Int) ^ (60 : Int).toNat * 10 ^ (60 : Int).toNat * 10 ^ (60 : Int).toNat) (10 ^ (60 : Int).toNat) := by unfold CMulW; decide +kernel
    have cp : CPow 10 60 := ⟨by decide, by decide, by decide⟩
    have cq : CPow 10 18 := ⟨by decide, by decide, by decide⟩
    have pos : (0 : Int) < 10 ^ (60 : Int).toNat * 10 ^ (60 : Int).toNat * 10 ^ (60 : Int).toNat * 10 ^ (60 : Int).toNat := by decide +kernel
    have emod : (10 : Int) ^ (60 : Int).toNat * 10 ^ (60 : Int).toNat * 10 ^ (60 : Int).toNat * 10 ^ (60 : Int).toNat = 10 ^ 240 := by decide +kernel
    refine ⟨_, rfl, .ref a, rfl, a, _, rfl, .inl hS, _, _, rfl, rfl, _, rfl, ite2 (fun hk => ?_) (fun hk => ?_)⟩
    · have hk' := of_decide_eq_true hk
      rw [List.length_map] at hk'
      obtain ⟨j, rfl⟩ : ∃ j : Nat, k = (j : Int) := ⟨k.toNat, by omega⟩
      have hj : j < ns.length := by omega
      refine ⟨.ref a, rfl, _, rfl, a, _, (j : Int), .int ns[j], rfl, rfl, hS, atI_nat (by rw [List.getElem?_map, List.getElem?_eq_getElem hj]; rfl), ?_⟩
      generalize ns[j] = cell
      refine ⟨.int cell, rfl, cell, rfl, 10, 60, rfl, rfl, cp, 10, 60, rfl, rfl, cp, _, _, rfl, rfl, w1, 10, 60, rfl, rfl, cp, _, _, rfl, rfl, w2, 10, 60, rfl, rfl, cp, _, _, rfl, rfl, w3, _, _, rfl, rfl, pos, ?_⟩
      refine ⟨.int cell, rfl, cell, rfl, 10, 18, rfl, rfl, cq, _, _, rfl, rfl, .inr ⟨_, rfl, _, _, rfl, rfl, .inr (bit _), ?_⟩⟩
      refine ⟨_, rfl, _, rfl, cell, 2305843009213693951, rfl, rfl, (by show (0 : Int) < 2305843009213693951; decide), _, rfl, 7919, (j : Int), rfl, rfl, .inl ⟨by decide, by decide⟩, _, rfl, _, (j : Int), rfl, rfl, .inr kk, _, _, rfl, rfl, _, 43, rfl, rfl, _, 48271, rfl, rfl, .inr ⟨by decide, by decide⟩, _, _, rfl, rfl, (by show (0 : Int) < 2305843009213693921; decide), ?_⟩
      refine ⟨by show 3 ≤ sizeLine; decide, ?_⟩
      rw [emod]
      exact fin _ (own0 _ _) (own1 _ _) _ (Int.emod_nonneg _ (by decide)) (Int.emod_lt_of_pos _ (by decide))
    · skip
      refine ⟨.int 0, rfl, 0, rfl, 10, 60, rfl, rfl, cp, 10, 60, rfl, rfl, cp, _, _, rfl, rfl, w1, 10, 60, rfl, rfl, cp, _, _, rfl, rfl, w2, 10, 60, rfl, rfl, cp, _, _, rfl, rfl, w3, _, _, rfl, rfl, pos, ?_⟩
      refine ⟨.int 0, rfl, 0, rfl, 10, 18, rfl, rfl, cq, _, _, rfl, rfl, .inr ⟨_, rfl, _, _, rfl, rfl, .inr (bit _), ?_⟩⟩
      refine ⟨_, rfl, _, rfl, 0, 2305843009213693951, rfl, rfl, (by show (0 : Int) < 2305843009213693951; decide), _, rfl, 7919, k, rfl, rfl, .inl ⟨by decide, by decide⟩, _, rfl, _, k, rfl, rfl, .inr kk, _, _, rfl, rfl, _, 43, rfl, rfl, _, 48271, rfl, rfl, .inr ⟨by decide, by decide⟩, _, _, rfl, rfl, (by show (0 : Int) < 2305843009213693921; decide), ?_⟩
      refine ⟨by show 3 ≤ sizeLine; decide, ?_⟩
      rw [emod]
      exact fin _ (own0 _ _) (own1 _ _) _ (Int.emod_nonneg _ (by decide)) (Int.emod_lt_of_pos _ (by decide))

def spTake : Sp := fun vs H Q _ => ∃ b many n, vs = [.ref b, .int many] ∧ Box H b n ∧ n ≤ 1000000 ∧ 1 ≤ many ∧ many ≤ 10 ^ 40 ∧
  ∀ r H', 0 ≤ r → r < many → Box H' b (n + 1) → (∀ a, a ≠ b → H' a = H a) → Q (.int r) H'
theorem ok_take {f : Addr} {fd : FuncData} {k : Nat} (F : Fun K "_law_take" "_law_take" sTake f fd) :
    FnOk P w K mg base CX0 (k + 1) f fd ["_law_box_here", "_law_many"] spTake := by
  refine F.ok scTake (fun vs H Q E h => ?_) (fun cdv A outer s H vs Q E hr h => ?_)
  · obtain ⟨b, many, n, rfl, _⟩ := h
    rfl
  · obtain ⟨b, many, n, rfl, ⟨o, m, c, e, h1, h2, h3, h4, h5, h6⟩, hn, m1, m2, q⟩ := h
    refine ⟨_, pss_cons (ps_if (pt_cmpR op_gt (pe_ix ix_list (pv 0) pe_int (fun _ _ => rfl)) pe_int (nomark _))
        (pss_cons (ps_set (i := 2) scTake.nd rfl (.inl rfl) (pe_op op_mod (pe_ix ix_list (pv 0) pe_int (fun _ _ => rfl)) (pv 1)))
        (pss_cons (ps_asg (pe_op op_fdivW (pe_ix ix_list (pv 0) pe_int (fun _ _ => rfl)) (pv 1)) (pg_sub (pv 0) pe_int set_list))
        (pss_one (ps_ret (pv 2))))) pss_nil)
      (pss_cons (ps_asg (pe_op op_add (pe_ix ix_list (pv 0) pe_int (fun _ _ => rfl)) pe_int) (pg_sub (pv 0) pe_int set_list))
      (pss_cons (ps_set (i := 3) scTake.nd rfl (.inl rfl) (pe_op op_mod (pe_op op_mul
          (pe_op op_add (pe_op op_add (pe_ix ix_list (pv 0) pe_int (fun _ _ => rfl)) (pe_op op_mul (pe_op op_mul pe_int (pe_ix ix_list (pv 0) pe_int (fun _ _ => rfl))) (pe_ix ix_list (pv 0) pe_int (fun _ _ => rfl)))) pe_int) pe_int) pe_int))
      (pss_cons (ps_set (i := 3) scTake.nd rfl (.inl rfl) (pe_op op_mod (pe_op op_mul (pv 3)
          (pe_op op_add (pe_op op_mod (pv 3) pe_int) (pe_op op_mul pe_int (pe_ix ix_list (pv 0) pe_int (fun _ _ => rfl))))) pe_int))
      (pss_one (ps_ret (pe_op op_mod (pe_op op_add (pe_op op_fdiv (pv 3) pe_int) (pe_op op_fdiv (pv 3) pe_int)) (pv 1))))))), ?_⟩
    have hdiv : CDivW o many := wide_div (b := 200) (by omega) (by omega) (by decide) (by decide)
    have hmany : (fun (_ j : Int) => 0 < j) o many := show 0 < many by omega
    refine ⟨.ref b, rfl, b, _, 0, .int o, rfl, rfl, SqL.of e, atI_nat (j := 0) rfl, o, 0, rfl, rfl, _, rfl, ite2 (fun ho => ?_) (fun ho => ?_)⟩
    · refine ⟨.ref b, rfl, b, _, 0, .int o, rfl, rfl, SqL.of e, atI_nat (j := 0) rfl, _, rfl, o, many, rfl, rfl, hmany, ?_⟩
      refine ⟨.ref b, rfl, b, _, 0, .int o, rfl, rfl, SqL.of e, atI_nat (j := 0) rfl, _, rfl, o, many, rfl, rfl, hdiv, .ref b, rfl, b, _, 0, 0, rfl, rfl, e, rfl, ?_⟩
      refine ⟨_, rfl, ?_⟩
      refine q _ _ (Int.emod_nonneg _ (by omega)) (Int.emod_lt_of_pos _ (by omega)) ⟨o / many, m, c, upd_same, ?_, ?_, h3, h4, h5, by omega⟩ ?_
      · exact Int.ediv_nonneg h1 (by omega)
      · exact Int.lt_of_le_of_lt (Int.ediv_le_self _ h1) h2
      · intro a ha
        exact upd_ne ha
    · have hc1 : (-(2 ^ 64) : Int) < c + 1 ∧ c + 1 < 2 ^ 64 := ⟨by omega, by omega⟩
      refine ⟨.ref b, rfl, b, _, 2, .int c, rfl, rfl, SqL.of e, atI_nat (j := 2) rfl, c, 1, rfl, rfl, .ref b, rfl, b, _, 2, 2, rfl, rfl, e, rfl, ?_⟩
      generalize hH : upd H b (HO.lst (List.set [V.int o, V.int m, V.int c] 2 (V.int (c + 1)))) = H2
      have e2 : H2 b = some (.lst [.int o, .int m, .int (c + 1)]) := by rw [← hH]; exact upd_same
      have off : ∀ a, a ≠ b → H2 a = H a := fun a ha => by rw [← hH]; exact upd_ne ha
      refine ⟨.ref b, rfl, b, _, 1, .int m, rfl, rfl, SqL.of e2, atI_nat (j := 1) rfl, .ref b, rfl, b, _, 2, .int (c + 1), rfl, rfl, SqL.of e2, atI_nat (j := 2) rfl, 65537, c + 1, rfl, rfl, .inr hc1, .ref b, rfl, b, _, 2, .int (c + 1), rfl, rfl, SqL.of e2, atI_nat (j := 2) rfl, _, c + 1, rfl, rfl, .inr hc1, m, _, rfl, rfl, _, 11, rfl, rfl, _, 48271, rfl, rfl, .inr ⟨by decide, by decide⟩, _, _, rfl, rfl, (by show (0 : Int) < 2305843009213693921; decide), ?_⟩
      refine ⟨_, rfl, _, rfl, _, 1000003, rfl, rfl, (by show (0 : Int) < 1000003; decide), .ref b, rfl, b, _, 2, .int (c + 1), rfl, rfl, SqL.of e2, atI_nat (j := 2) rfl, 99991, c + 1, rfl, rfl, .inr hc1, _, _, rfl, rfl, _, _, rfl, rfl, .inl (modb _), _, _, rfl, rfl, (by show (0 : Int) < 2305843009213693907; decide), ?_⟩
      refine ⟨_, rfl, _, 97, rfl, rfl, ⟨by decide, by decide⟩, _, rfl, _, 1000033, rfl, rfl, ⟨by decide, by decide⟩, _, _, rfl, rfl, .int many, rfl, _, many, rfl, rfl, (by show (0 : Int) < many; omega), ?_⟩
      refine q _ _ (Int.emod_nonneg _ (by omega)) (Int.emod_lt_of_pos _ (by omega)) ⟨o, m, c + 1, e2, h1, h2, h3, h4, by omega, by omega⟩ off

def spOf : Sp := fun vs H Q _ => ∃ b l n xs, vs = [.ref b, .ref l] ∧ Box H b n ∧ n ≤ 1000000 ∧ H l = some (.lst xs) ∧ b ≠ l ∧ 1 ≤ xs.length ∧ xs.length ≤ 1000 ∧
  ∀ x H', x ∈ xs → Box H' b (n + 1) → (∀ a, a ≠ b → H' a = H a) → Q x H'
theorem ok_of {f fT : Addr} {fd fdT : FuncData} {k : Nat} (F : Fun K "_law_of" "_law_of" sOf f fd) (FT : Fun K "_law_take" "_law_take" sTake fT fdT) (bT : Binds K fdT ["_law_box_here", "_law_many"] [])
    (gT : mg "_law_take" = some (.ref fT)) (ml : mg "len" = none) :
    FnOk P w K mg base CX0 (k + 2) f fd ["_law_box_here", "_law_some"] spOf := by
  have GT : FnOk P w K mg base CX0 (k + 1) fT fdT ["_law_box_here", "_law_many"] spTake := ok_take FT
  refine F.ok scOf (fun vs H Q E h => ?_) (fun cdv A outer s H vs Q E hr h => ?_)
  · obtain ⟨b, l, n, xs, rfl, _⟩ := h
    rfl
  · obtain ⟨b, l, n, xs, rfl, hB, hn, hx, ne, l1, l2, q⟩ := h
    refine ⟨_, pss_one (ps_ret (pe_ix ix_list (pv 1) (pe_call GT hr (by rfl) gT FT.kp bT .nil pass0 (pa_cons (pv 0) (pa_cons
      (pe_callB call_len_seq (by rfl) ml PySem.boot_len (pa_cons (pv 1) pa_nil)) pa_nil))) (fun _ _ => rfl))), ?_⟩
    refine ⟨.ref l, rfl, .ref b, rfl, .ref l, rfl, l, xs, rfl, .inl (SqL.of hx), b, (xs.length : Int), n, rfl, hB, hn, by omega, by omega, ?_⟩
    intro r H' r0 r1 hB' hk
    have hxl : H' l = some (.lst xs) := by rw [hk l (Ne.symm ne)]; exact hx
    obtain ⟨j, rfl⟩ : ∃ j : Nat, r = (j : Int) := ⟨r.toNat, by omega⟩
    have hj : j < xs.length := by omega
    exact ⟨l, xs, (j : Int), xs[j], rfl, rfl, SqL.of hxl, atI_nat (List.getElem?_eq_getElem hj), q _ H' (List.getElem_mem hj) hB' hk⟩
end
/-! ### what stays while the box is drawn from -/
def SX (b : Addr) (H H' : Hp) : Prop := ∀ a o, a ≠ b → H a = some o → H' a = some o
theorem SX.refl (b : Addr) (H : Hp) : SX b H H := fun _ _ _ h => h
theorem SX.trans {b : Addr} {H H1 H2 : Hp} (x : SX b H H1) (y : SX b H1 H2) : SX b H H2 := fun a o n h => y a o n (x a o n h)
theorem SX.of_same {b : Addr} {H H' : Hp} (h : Same H H') : SX b H H' := fun a o _ e => h a o e
theorem SX.of_eq {b : Addr} {H H' : Hp} (h : ∀ a, a ≠ b → H' a = H a) : SX b H H' := fun a o n e => by rw [h a n]; exact e
theorem SX.new {b : Addr} {H H' : Hp} {p : Addr} {o : HO} (x : SX b H H') (hp : H' p = none) : SX b H (upd H' p o) := x.trans (.of_same (same_upd hp))
theorem SX.free {b p : Addr} {H H' : Hp} {n : Nat} (x : SX b H H') (hB : Box H' b n) (h : H' p = none) : H p = none := by
  cases e : H p with
  | none => rfl
  | some o =>
    by_cases hb : p = b
    · subst hb
      obtain ⟨_, _, _, z, _⟩ := hB
      rw [h] at z
      cases z
    · rw [x p o hb e] at h
      cases h
theorem Box.at {H H' : Hp} {b : Addr} {n : Nat} (h : Box H b n) (e : H' b = H b) : Box H' b n := by
  obtain ⟨o, m, c, z, r⟩ := h
  exact ⟨o, m, c, by rw [e]; exact z, r⟩
theorem Box.new {H : Hp} {b p : Addr} {n : Nat} {o : HO} (h : Box H b n) (hp : H p = none) : Box (upd H p o) b n := by
  obtain ⟨_, _, _, z, _⟩ := id h
  exact h.at (upd_ne (ne_of_none z hp))
theorem Box.some {H : Hp} {b : Addr} {n : Nat} (h : Box H b n) : H b ≠ none := by
  obtain ⟨_, _, _, z, _⟩ := h
  rw [z]
  exact fun q => nomatch q

theorem scTwosIn : FnScope ["n"] ["n"] (defScope sTwosIn) := ⟨rfl, rfl, rfl, by decide +kernel, rfl, by decide +kernel, by decide +kernel⟩
theorem scOddPart : FnScope ["n"] ["n"] (defScope sOddPart) := ⟨rfl, rfl, rfl, by decide +kernel, rfl, by decide +kernel, by decide +kernel⟩
theorem scCommon : FnScope ["a", "b"] ["a", "b"] (defScope sCommon) := ⟨rfl, rfl, rfl, by decide +kernel, rfl, by decide +kernel, by decide +kernel⟩
theorem scWhole : FnScope ["thing"] ["thing"] (defScope sWhole) := ⟨rfl, rfl, rfl, by decide +kernel, rfl, by decide +kernel, by decide +kernel⟩
theorem Box.get {H : Hp} {b : Addr} {n : Nat} (h : Box H b n) : ∃ o, H b = Option.some o := by
  obtain ⟨_, _, _, z, _⟩ := h
  exact ⟨_, z⟩
/-- a change of what is new -/
theorem SX.set {b p : Addr} {H H' : Hp} {o : HO} (x : SX b H H') (hp : H p = none) : SX b H (upd H' p o) := fun a u na e => by
  rw [upd_ne (ne_of_none e hp)]
  exact x a u na e
theorem Box.set {H : Hp} {b p : Addr} {n : Nat} {o : HO} (h : Box H b n) (hp : b ≠ p) : Box (upd H p o) b n := h.at (upd_ne hp)
theorem erase_perm {α : Type} : ∀ (l : List α) (j : Nat) (h : j < l.length), (l[j] :: l.eraseIdx j).Perm l
  | x :: r, 0, _ => List.Perm.refl _
  | x :: r, j + 1, h => by
    have h' : j < r.length := by rw [List.length_cons] at h; omega
    show (r[j] :: x :: r.eraseIdx j).Perm (x :: r)
    exact (List.Perm.swap x r[j] _).trans ((erase_perm r j h').cons x)
theorem map_erase {α β : Type} (f : α → β) : ∀ (l : List α) (j : Nat), (l.map f).eraseIdx j = (l.eraseIdx j).map f
  | [], _ => rfl
  | x :: r, 0 => rfl
  | x :: r, j + 1 => by
    show f x :: (r.map f).eraseIdx j = f x :: (r.eraseIdx j).map f
    rw [map_erase f r j]
theorem dpInts {K : PySem.W.Frag} {H : Hp} : ∀ L : List Int, DpAll K H (L.map V.int) (L.map PyData.int)
  | [] => .nil
  | i :: L => .cons (.int i) (dpInts L)
theorem lay_ints : ∀ L : List Int, PyData.canLayAll0 (L.map PyData.int) = true
  | [] => rfl
  | i :: L => by
    rw [List.map_cons, PyData.canLayAll0, lay_ints L]
    rfl
theorem depth_ints : ∀ L : List Int, PyData.depthAll (L.map PyData.int) = 0
  | [] => rfl
  | i :: L => by
    rw [List.map_cons, PyData.depthAll, depth_ints L]
    rfl
theorem shaped_ints (L : List Int) : SeqAt.shaped (.list (L.map PyData.int)) = true := by
  unfold SeqAt.shaped
  rw [PyData.canLay0, lay_ints, PyData.depth, depth_ints]
  rfl
def wholeD : PyData → Bool
  | .int _ => true
  | _ => false
section
variable {P : Program} {w : World} {K : PySem.W.Frag} {mg : Str → Option Value} {base : Heap}
def spTwosIn : Sp := fun vs H Q _ => ∃ n : Int, vs = [.int n] ∧ 0 < n ∧ Q (.int (v2 n.toNat : Nat)) H
theorem ok_twosIn {f : Addr} {fd : FuncData} {k : Nat} (F : Fun K "twos_in" "twos_in" sTwosIn f fd) : FnOk P w K mg base CX0 (k + 1) f fd ["n"] spTwosIn := by
  refine F.ok scTwosIn (fun vs H Q E h => ?_) (fun cdv A outer s H vs Q E hr h => ?_)
  · obtain ⟨n, rfl, _⟩ := h
    rfl
  · obtain ⟨n, rfl, hn, q⟩ := h
    refine ⟨_, pss_one (ps_ret (pe_op op_sub (pe_bits (pe_op op_and (pv 0) (pe_un un_neg (pv 0)))) pe_int)), ?_⟩
    refine ⟨_, rfl, _, rfl, n, rfl, n, -n, rfl, rfl, _, rfl, _, 1, rfl, rfl, ?_⟩
    rw [low_bit hn, bits_pow]
    show Q (.int (((v2 n.toNat + 1 : Nat) : Int) - 1)) H
    rw [show (((v2 n.toNat + 1 : Nat) : Int) - 1) = ((v2 n.toNat : Nat) : Int) by omega]
    exact q
def spOddPart : Sp := fun vs H Q _ => ∃ n : Int, vs = [.int n] ∧ 0 < n ∧ Q (.int (n / 2 ^ v2 n.toNat)) H
theorem ok_oddPart {f fT : Addr} {fd fdT : FuncData} {k : Nat} (F : Fun K "odd_part" "odd_part" sOddPart f fd) (FT : Fun K "twos_in" "twos_in" sTwosIn fT fdT) (bT : Binds K fdT ["n"] []) (gT : mg "twos_in" = some (.ref fT)) :
    FnOk P w K mg base CX0 (k + 2) f fd ["n"] spOddPart := by
  have GT : FnOk P w K mg base CX0 (k + 1) fT fdT ["n"] spTwosIn := ok_twosIn FT
  refine F.ok scOddPart (fun vs H Q E h => ?_) (fun cdv A outer s H vs Q E hr h => ?_)
  · obtain ⟨n, rfl, _⟩ := h
    rfl
  · obtain ⟨n, rfl, hn, q⟩ := h
    refine ⟨_, pss_one (ps_ret (pe_op op_shr (pv 0) (pe_call GT hr (by rfl) gT FT.kp bT .nil pass0 (pa_cons (pv 0) pa_nil)))), ?_⟩
    refine ⟨_, rfl, _, rfl, n, rfl, hn, n, _, rfl, rfl, Int.natCast_nonneg _, ?_⟩
    exact q
def spCommon : Sp := fun vs H Q _ => ∃ a b : Nat, vs = [.int a, .int b] ∧ Q (.int (Nat.gcd a b : Nat)) H
theorem ok_common {f : Addr} {fd : FuncData} {k : Nat} (F : Fun K "common_part" "common_part" sCommon f fd) : FnOk P w K mg base CX0 (k + 1) f fd ["a", "b"] spCommon := by
  refine F.ok scCommon (fun vs H Q E h => ?_) (fun cdv A outer s H vs Q E hr h => ?_)
  · obtain ⟨a, b, rfl, _⟩ := h
    rfl
  · obtain ⟨a, b, rfl, q⟩ := h
    refine ⟨_, pss_cons (ps_while PassesOwn.never (pt_cmpR op_gt (pv 1) pe_int (nomark _)) (pss_one (ps_par (i := 0) (j := 1) rfl scCommon.nd rfl rfl (by decide) rfl rfl (pa_cons (pv 1) (pa_cons (pe_op op_mod (pv 0) (pv 1)) pa_nil)) (by rfl))))
      (pss_one (ps_ret (pv 0))), ?_⟩
    refine while_by (fun σ H' => ∃ x y : Nat, σ = [some (.int x), some (.int y)] ∧ H' = H ∧ Nat.gcd x y = Nat.gcd a b) (fun σ _ => match σ with | [_, some (.int y)] => y.toNat | _ => 0) ⟨a, b, rfl, rfl, rfl⟩ ?_ ?_
    · rintro σ H' ⟨x, y, rfl, rfl, hg⟩
      refine ⟨_, rfl, (y : Int), 0, rfl, rfl, _, rfl, ite2 (fun hy => ?_) (fun hy => ?_)⟩
      · have hy' : 0 < y := by have := of_decide_eq_true hy; omega
        refine ⟨_, rfl, _, rfl, _, rfl, (x : Int), (y : Int), rfl, rfl, (by show (0 : Int) < y; omega), _, _, rfl, ⟨y, x % y, ?_, rfl, ?_⟩, ?_⟩
        · rw [Int.natCast_emod]; rfl
        · rw [← hg, Nat.gcd_comm x y, Nat.gcd_rec y x, Nat.gcd_comm]
        · show ((x : Int) % (y : Int)).toNat < (y : Int).toNat
          rw [← Int.natCast_emod]
          have := Nat.mod_lt x hy'
          omega
      · have hy' : y = 0 := by
          have : ¬ (y : Int) > 0 := fun z => hy (decide_eq_true z)
          omega
        subst hy'
        rw [Nat.gcd_zero_right] at hg
        refine ⟨_, rfl, ?_⟩
        rw [hg]
        exact q
    · rintro σ H' Q1 Q2 hq ⟨x, e1, i, j, e2, e3, z, e4, h⟩
      exact ⟨x, e1, i, j, e2, e3, z, e4, hq _ _ h⟩
def spWhole : Sp := fun vs H Q _ => ∃ x d, vs = [x] ∧ Dd H x d ∧ Q (.bl (wholeD d)) H
theorem ok_whole {f : Addr} {fd : FuncData} {k : Nat} (F : Fun K "is_whole" "is_whole" sWhole f fd) (mi : mg "isinstance" = none) (mI : mg "int" = none) (mB : mg "bool" = none) :
    FnOk P w K mg base CX0 (k + 1) f fd ["thing"] spWhole := by
  refine F.ok scWhole (fun vs H Q E h => ?_) (fun cdv A outer s H vs Q E hr h => ?_)
  · obtain ⟨x, d, rfl, _⟩ := h
    rfl
  · obtain ⟨x, d, rfl, hd, q⟩ := h
    refine ⟨_, pss_one (ps_ret (pe_and
      (pe_callB call_isi (by rfl) mi (by decide +kernel) (pa_cons (pv 0) (pa_cons (pe_bltn (v := .ty "int") (by rfl) mI (by decide +kernel) rfl) pa_nil)))
      (pe_one (pe_not (pe_callB call_isi (by rfl) mi (by decide +kernel) (pa_cons (pv 0) (pa_cons (pe_bltn (v := .ty "bool") (by rfl) mB (by decide +kernel) rfl) pa_nil))))))), ?_⟩
    refine ⟨x, rfl, x, _, _, _, _, rfl, .ty "int", hd.ty, kit_int _ d, isIntD d, rfl, ?_⟩
    cases hb : isIntD d with
    | false =>
      refine iteF ?_
      have : wholeD d = false := by cases d <;> first | rfl | cases hb
      rw [this] at q
      exact q
    | true =>
      refine iteT ?_
      refine ⟨x, rfl, x, _, _, _, _, rfl, .ty "bool", hd.ty, kit_bool _ d, isBoolD d, rfl, ?_⟩
      have : wholeD d = !isBoolD d := by cases d <;> first | rfl | cases hb
      rw [this] at q
      exact q

end
/-- a statement, a word that holds behind it, the rest -/
def tMid (t u : TS) : TS := fun D σ H => ∃ M : L2.St → Hp → Prop, t { D with nx := M } σ H ∧ ∀ σ1 H1, M σ1 H1 → u D σ1 H1
theorem pss_mid {X : Cx} {st : Stmt} {rest : List Stmt} {t u : TS} (a : PS X st t) (b : PSs X rest u) : PSs X (st :: rest) (tMid t u) := by
  constructor
  rintro pins s σ H D I ⟨M, hm, hu⟩
  refine wpAny_execs_cons (thn (a.run pins s σ H { D with nx := M } I hm) ?_)
  intro fl s1 q
  cases fl with
  | next =>
    obtain ⟨σ1, H1, I1, w⟩ := q
    exact b.run pins s1 σ1 H1 D I1 (hu σ1 H1 w)
  | ret v => exact q
  | brk => exact q
  | cont => exact q

end K06

namespace K06
open PySem PySem.Spec PyProof.Rows L2 MG
abbrev sHas : Stmt := topS 9
abbrev sAre : Stmt := topS 10
abbrev sEnded : Stmt := topS 12
abbrev sIsRun : Stmt := topS 13
abbrev sMay : Stmt := topS 14
abbrev sDbl : Stmt := topS 15
abbrev sRan : Stmt := topS 16
theorem scHas : FnScope ["row", "place"] ["row", "place"] (defScope sHas) := ⟨rfl, rfl, rfl, by decide +kernel, rfl, by decide +kernel, by decide +kernel⟩
theorem scAre : FnScope ["row", "i", "j"] ["row", "i", "j"] (defScope sAre) := ⟨rfl, rfl, rfl, by decide +kernel, rfl, by decide +kernel, by decide +kernel⟩
theorem scEnded : FnScope ["row", "i", "j", "shares"] ["row", "i", "j"] (defScope sEnded) := ⟨rfl, rfl, rfl, by decide +kernel, rfl, by decide +kernel, by decide +kernel⟩
theorem scIsRun : FnScope ["row", "thing", "i", "j", "k"] ["row", "thing"] (defScope sIsRun) := ⟨rfl, rfl, rfl, by decide +kernel, rfl, by decide +kernel, by decide +kernel⟩
theorem scMay : FnScope ["row", "run", "i", "j", "k", "most"] ["row", "run"] (defScope sMay) := ⟨rfl, rfl, rfl, by decide +kernel, rfl, by decide +kernel, by decide +kernel⟩
theorem scDbl : FnScope ["amount", "times", "whole", "rest", "factor"] ["amount", "times", "whole"] (defScope sDbl) := ⟨rfl, rfl, rfl, by decide +kernel, rfl, by decide +kernel, by decide +kernel⟩
theorem scRan : FnScope ["row", "run", "i", "j", "k", "together", "amounts"] ["row", "run"] (defScope sRan) := ⟨rfl, rfl, rfl, by decide +kernel, rfl, by decide +kernel, by decide +kernel⟩
/-- a row as it is handed in -/
def Rw (H : Hp) (a : Addr) (ns : List Int) : Prop := H a = some (.tup (ns.map V.int)) ∧ (∀ n ∈ ns, 0 ≤ n ∧ n < 2 ^ 120) ∧ ns.length ≤ 40
theorem Rw.same {H H' : Hp} {a : Addr} {ns : List Int} (r : Rw H a ns) (s : Same H H') : Rw H' a ns := ⟨s _ _ r.1, r.2⟩
def hasD (ns : List Int) : PyData → Bool
  | .int p => decide (0 ≤ p) && (decide (p < ns.length) && decide (0 < ns.getD p.toNat 0))
  | _ => false
def twoD (ns : List Int) : PyData → PyData → Bool
  | .int p, .int q => hasD ns (.int p) && (hasD ns (.int q) && decide (p ≠ q))
  | _, _ => false
theorem hasD_eq (ns : List Int) (p : Int) : hasD ns (.int p) = (decide (0 ≤ p) && (decide (p < ns.length) && decide (0 < ns.getD p.toNat 0))) := rfl
theorem twoD_eq (ns : List Int) (p q : Int) : twoD ns (.int p) (.int q) = (hasD ns (.int p) && (hasD ns (.int q) && decide (p ≠ q))) := rfl
theorem hasD_int {ns : List Int} {d : PyData} (h : hasD ns d = true) : ∃ p : Nat, d = .int p ∧ p < ns.length ∧ 0 < ns.getD p 0 := by
  cases d with
  | int p =>
    unfold hasD at h
    simp only [Bool.and_eq_true, decide_eq_true_eq] at h
    obtain ⟨h1, h2, h3⟩ := h
    refine ⟨p.toNat, by rw [Int.toNat_of_nonneg h1], by omega, h3⟩
  | _ => cases h
theorem getD_at {ns : List Int} {p : Nat} (h : p < ns.length) : (ns.map V.int)[p]? = some (.int (ns.getD p 0)) := by
  rw [List.getElem?_map, List.getD_eq_getElem?_getD, List.getElem?_eq_getElem h]
  rfl
section
variable {P : Program} {w : World} {K : PySem.W.Frag} {mg : Str → Option Value} {base : Heap}
def spHas : Sp := fun vs H Q _ => ∃ a ns x d, vs = [.ref a, x] ∧ Rw H a ns ∧ Dd H x d ∧ Q (.bl (hasD ns d)) H
theorem ok_has {f fW : Addr} {fd fdW : FuncData} {k : Nat} (F : Fun K "has_something" "has_something" sHas f fd) (FW : Fun K "is_whole" "is_whole" sWhole fW fdW) (bW : Binds K fdW ["thing"] []) (gW : mg "is_whole" = some (.ref fW))
    (mi : mg "isinstance" = none) (mI : mg "int" = none) (mB : mg "bool" = none) (ml : mg "len" = none) : FnOk P w K mg base CX0 (k + 2) f fd ["row", "place"] spHas := by
  have GW : FnOk P w K mg base CX0 (k + 1) fW fdW ["thing"] spWhole := ok_whole FW mi mI mB
  refine F.ok scHas (fun vs H Q E h => ?_) (fun cdv A outer s H vs Q E hr h => ?_)
  · obtain ⟨a, ns, x, d, rfl, _⟩ := h
    rfl
  · obtain ⟨a, ns, x, d, rfl, r, hd, q⟩ := h
    refine ⟨_, pss_one (ps_ret (pe_and (pe_call GW hr (by rfl) gW FW.kp bW .nil pass0 (pa_cons (pv 1) pa_nil))
      (pe_and (pe_chain op_le op_lt pe_int (pv 1) (pe_callB call_len_seq (by rfl) ml PySem.boot_len (pa_cons (pv 0) pa_nil)))
      (pe_one (pe_cmpR op_gt (pe_ix ix_tup (pv 0) (pv 1) (fun _ _ => rfl)) pe_int (nomark _)))))), ?_⟩
    refine ⟨_, rfl, x, d, rfl, hd, wholeD d, rfl, ?_⟩
    cases hw : wholeD d with
    | false =>
      have e : hasD ns d = false := by cases d <;> first | rfl | cases hw
      rw [e] at q
      exact iteF q
    | true =>
      cases hd with
      | int p =>
        have hS : SqT K H a (ns.map V.int) := SqT.of r.1
        refine iteT ⟨_, rfl, 0, p, rfl, rfl, decide (0 ≤ p), rfl, ?_⟩
        cases h1 : decide (0 ≤ p) with
        | false =>
          refine iteF ⟨false, rfl, iteF ?_⟩
          rw [hasD_eq, h1] at q
          exact q
        | true =>
          refine iteT ⟨.ref a, rfl, a, _, rfl, .inr hS, p, _, rfl, rfl, ?_⟩
          rw [List.length_map]
          cases h2 : decide (p < (ns.length : Int)) with
          | false =>
            refine ⟨false, by show V.bl (decide (p < (ns.length : Int))) = V.bl false; rw [h2], iteF ?_⟩
            rw [hasD_eq, h1, h2] at q
            exact q
          | true =>
            have h1' := of_decide_eq_true h1
            have h2' := of_decide_eq_true h2
            obtain ⟨j, rfl⟩ : ∃ j : Nat, p = (j : Int) := ⟨p.toNat, by omega⟩
            refine ⟨true, by show V.bl (decide ((j : Int) < (ns.length : Int))) = V.bl true; rw [h2], iteT ⟨.ref a, rfl, _, rfl, a, _, (j : Int), .int (ns.getD j 0), rfl, rfl, hS, atI_nat (getD_at (by omega)), _, 0, rfl, rfl, ?_⟩⟩
            rw [hasD_eq, h1, h2] at q
            exact q
      | _ => cases hw
def spAre : Sp := fun vs H Q _ => ∃ a ns x y d e, vs = [.ref a, x, y] ∧ Rw H a ns ∧ Dd H x d ∧ Dd H y e ∧ Q (.bl (twoD ns d e)) H
theorem ok_are {f fS : Addr} {fd fdS : FuncData} {k : Nat} (F : Fun K "are_two_holders" "are_two_holders" sAre f fd) (FS : Fun K "has_something" "has_something" sHas fS fdS) (bS : Binds K fdS ["row", "place"] []) (gS : mg "has_something" = some (.ref fS))
    (GS : FnOk P w K mg base CX0 (k + 2) fS fdS ["row", "place"] spHas) : FnOk P w K mg base CX0 (k + 3) f fd ["row", "i", "j"] spAre := by
  refine F.ok scAre (fun vs H Q E h => ?_) (fun cdv A outer s H vs Q E hr h => ?_)
  · obtain ⟨a, ns, x, y, d, e, rfl, _⟩ := h
    rfl
  · obtain ⟨a, ns, x, y, d, e, rfl, r, hd, he, q⟩ := h
    refine ⟨_, pss_one (ps_ret (pe_and (pe_call GS hr (by rfl) gS FS.kp bS .nil pass0 (pa_cons (pv 0) (pa_cons (pv 1) pa_nil))) (pe_and (pe_call GS hr (by rfl) gS FS.kp bS .nil pass0 (pa_cons (pv 0) (pa_cons (pv 2) pa_nil)))
      (pe_one (pe_cmpR op_ne (pv 1) (pv 2) (nomark _)))))), ?_⟩
    refine ⟨_, rfl, _, rfl, a, ns, x, d, rfl, r, hd, hasD ns d, rfl, ?_⟩
    cases h1 : hasD ns d with
    | false =>
      have z : twoD ns d e = false := by
        cases d <;> cases e <;> first | rfl | (rw [twoD_eq, h1]; rfl)
      rw [z] at q
      exact iteF q
    | true =>
      refine iteT ⟨_, rfl, _, rfl, a, ns, y, e, rfl, r, he, hasD ns e, rfl, ?_⟩
      obtain ⟨p, rfl, hp, hp0⟩ := hasD_int h1
      cases h2 : hasD ns e with
      | false =>
        have z : twoD ns (.int p) e = false := by
          cases e <;> first | rfl | (rw [twoD_eq, h2, Bool.false_and, Bool.and_false])
        rw [z] at q
        exact iteF q
      | true =>
        obtain ⟨p2, rfl, hp2, hp20⟩ := hasD_int h2
        cases hd
        cases he
        refine iteT ⟨_, rfl, _, rfl, rfl, ?_⟩
        rw [twoD_eq, h1, h2, Bool.true_and, Bool.true_and] at q
        have z : decide ((p : Int) ≠ (p2 : Int)) = !decide (V.int p = V.int p2) := by
          by_cases w : (p : Int) = p2
          · rw [decide_eq_false (fun z => z w), decide_eq_true (by rw [w])]; rfl
          · rw [decide_eq_true w, decide_eq_false (fun z => w (V.int.inj z))]; rfl
        rw [z] at q
        exact q
def dueV : Option Nat → V
  | none => .non
  | some d => .int d
def spEnded : Sp := fun vs H Q _ => ∃ a ns, ∃ p q : Nat, vs = [.ref a, .int p, .int q] ∧ Rw H a ns ∧ p < ns.length ∧ q < ns.length ∧ 0 < ns.getD p 0 ∧ 0 < ns.getD q 0 ∧ Q (dueV (due (ns.getD p 0).toNat (ns.getD q 0).toNat)) H
theorem ok_ended {f fC fO fT : Addr} {fd fdC fdO fdT : FuncData} {k : Nat} (F : Fun K "ended_by" "ended_by" sEnded f fd) (FC : Fun K "common_part" "common_part" sCommon fC fdC) (bC : Binds K fdC ["a", "b"] []) (gC : mg "common_part" = some (.ref fC))
    (FO : Fun K "odd_part" "odd_part" sOddPart fO fdO) (bO : Binds K fdO ["n"] []) (gO : mg "odd_part" = some (.ref fO)) (FT : Fun K "twos_in" "twos_in" sTwosIn fT fdT) (bT : Binds K fdT ["n"] []) (gT : mg "twos_in" = some (.ref fT)) :
    FnOk P w K mg base CX0 (k + 3) f fd ["row", "i", "j"] spEnded := by
  have GC : FnOk P w K mg base CX0 (k + 1) fC fdC ["a", "b"] spCommon := ok_common FC
  have GO : FnOk P w K mg base CX0 (k + 2) fO fdO ["n"] spOddPart := ok_oddPart FO FT bT gT
  have GT : FnOk P w K mg base CX0 (k + 1) fT fdT ["n"] spTwosIn := ok_twosIn FT
  refine F.ok scEnded (fun vs H Q E h => ?_) (fun cdv A outer s H vs Q E hr h => ?_)
  · obtain ⟨a, ns, p, q, rfl, _⟩ := h
    rfl
  · obtain ⟨a, ns, p, q, rfl, r, hp, hq, p0, q0, want⟩ := h
    have hr1 := hr.mono (show k + 1 ≤ k + 2 by omega)
    refine ⟨_, pss_cons (ps_set (i := 3) scEnded.nd rfl (.inl rfl) (pe_op op_fdivW (pe_op op_add (pe_ix ix_tup (pv 0) (pv 1) (fun _ _ => rfl)) (pe_ix ix_tup (pv 0) (pv 2) (fun _ _ => rfl)))
        (pe_call GC hr1 (by rfl) gC FC.kp bC .nil pass0 (pa_cons (pe_ix ix_tup (pv 0) (pv 1) (fun _ _ => rfl)) (pa_cons (pe_ix ix_tup (pv 0) (pv 2) (fun _ _ => rfl)) pa_nil)))))
      (pss_cons (ps_if (pt_cmpR op_gt (pe_call GO hr (by rfl) gO FO.kp bO .nil pass0 (pa_cons (pv 3) pa_nil)) pe_int (nomark _)) (pss_one (ps_ret pe_non)) pss_nil)
      (pss_one (ps_ret (pe_call GT hr1 (by rfl) gT FT.kp bT .nil pass0 (pa_cons (pv 3) pa_nil))))), ?_⟩
    have hS : SqT K H a (ns.map V.int) := SqT.of r.1
    have ap : ns.getD p 0 ∈ ns := by rw [List.getD_eq_getElem?_getD, List.getElem?_eq_getElem hp]; exact List.getElem_mem hp
    have aq : ns.getD q 0 ∈ ns := by rw [List.getD_eq_getElem?_getD, List.getElem?_eq_getElem hq]; exact List.getElem_mem hq
    have lp := r.2.1 _ ap
    have lq := r.2.1 _ aq
    have gp := getD_at hp
    have gq := getD_at hq
    generalize ns.getD p 0 = x at *
    generalize ns.getD q 0 = y at *
    obtain ⟨x, rfl⟩ : ∃ j : Nat, x = (j : Int) := ⟨x.toNat, by omega⟩
    obtain ⟨y, rfl⟩ : ∃ j : Nat, y = (j : Int) := ⟨y.toNat, by omega⟩
    rw [Int.toNat_natCast, Int.toNat_natCast] at want
    have hg0 : 0 < Nat.gcd x y := Nat.gcd_pos_of_pos_left _ (by omega)
    have hg1 : Nat.gcd x y ≤ x := Nat.le_of_dvd (by omega) (Nat.gcd_dvd_left _ _)
    have cd : CDivW ((x : Int) + y) (Nat.gcd x y : Nat) := wide_div (b := 130) (by omega) (by omega) (by decide) (by decide)
    have es : ((x : Int) + y) / (Nat.gcd x y : Nat) = (shares x y : Nat) := by
      unfold shares
      rw [Int.natCast_ediv, Int.natCast_add]
    have hs0 := shares_pos (a := x) (b := y) (by omega) (by omega)
    refine ⟨.ref a, rfl, _, rfl, a, _, (p : Int), .int x, rfl, rfl, hS, atI_nat gp, .ref a, rfl, _, rfl, a, _, (q : Int), .int y, rfl, rfl, hS, atI_nat gq, _, _, rfl, rfl,
      .ref a, rfl, _, rfl, a, _, (p : Int), .int x, rfl, rfl, hS, atI_nat gp, .ref a, rfl, _, rfl, a, _, (q : Int), .int y, rfl, rfl, hS, atI_nat gq, x, y, rfl, _, _, rfl, rfl, cd, ?_⟩
    dsimp only
    rw [es]
    refine ⟨_, rfl, (shares x y : Nat), rfl, by omega, _, 1, rfl, rfl, _, rfl, ?_⟩
    rw [Int.toNat_natCast]
    have eo : ((shares x y : Nat) : Int) / 2 ^ v2 (shares x y) = ((shares x y / 2 ^ v2 (shares x y) : Nat) : Int) := by
      rw [Int.natCast_ediv, Int.natCast_pow]; rfl
    rw [eo]
    unfold due at want
    refine ite2 (fun h1 => ?_) (fun h1 => ?_)
    · have h1' : shares x y / 2 ^ v2 (shares x y) > 1 := by have := of_decide_eq_true h1; omega
      rw [if_pos h1'] at want
      exact want
    · have h1' : ¬ shares x y / 2 ^ v2 (shares x y) > 1 := fun z => h1 (decide_eq_true (by omega))
      rw [if_neg h1'] at want
      refine ⟨_, rfl, (shares x y : Nat), rfl, by omega, ?_⟩
      rw [Int.toNat_natCast]
      exact want
end
end K06

namespace K06
open PySem PySem.Spec PyProof.Rows L2 MG
def nnK : PyData → Bool
  | .int n => decide (n ≥ 0)
  | _ => false
def runD (ns : List Int) : PyData → Bool
  | .tuple [i, j, k] => twoD ns i j && nnK k
  | _ => false
def mayK (ns : List Int) (p q : Nat) (k : Int) : Bool :=
  match due (ns.getD p 0).toNat (ns.getD q 0).toNat with
  | none => true
  | some m => decide (k ≤ (m : Int))
def mayD (ns : List Int) (d : PyData) : Bool :=
  match d with
  | .tuple [.int p, .int q, .int k] => runD ns d && mayK ns p.toNat q.toNat k
  | _ => false
theorem mayD_eq (ns : List Int) (p q k : Int) : mayD ns (.tuple [.int p, .int q, .int k]) = (runD ns (.tuple [.int p, .int q, .int k]) && mayK ns p.toNat q.toNat k) := rfl
structure RunOk (ns : List Int) (p q : Nat) : Prop where
  hp : p < ns.length
  hq : q < ns.length
  p0 : 0 < ns.getD p 0
  q0 : 0 < ns.getD q 0
  ne : p ≠ q
theorem runD_int {ns : List Int} {d : PyData} (h : runD ns d = true) : ∃ p q k : Nat, d = .tuple [.int p, .int q, .int k] ∧ RunOk ns p q := by
  unfold runD at h
  split at h
  · rename_i i j k
    rw [Bool.and_eq_true] at h
    obtain ⟨h1, h2⟩ := h
    unfold twoD at h1
    split at h1
    · rename_i p q
      simp only [Bool.and_eq_true, decide_eq_true_eq] at h1
      obtain ⟨a1, a2, a3⟩ := h1
      obtain ⟨p', e1, b1, c1⟩ := hasD_int a1
      obtain ⟨q', e2, b2, c2⟩ := hasD_int a2
      cases e1
      cases e2
      cases k with
      | int n =>
        have hn : n ≥ 0 := of_decide_eq_true h2
        refine ⟨p', q', n.toNat, by rw [Int.toNat_of_nonneg hn], b1, b2, c1, c2, fun z => a3 (by rw [z])⟩
      | _ => cases h2
    · cases h1
  · cases h
theorem runD_of {ns : List Int} {p q k : Nat} (h : RunOk ns p q) : runD ns (.tuple [.int p, .int q, .int k]) = true := by
  show (twoD ns (.int p) (.int q) && decide ((k : Int) ≥ 0)) = true
  rw [twoD_eq, hasD_eq, hasD_eq, decide_eq_true (show (0 : Int) ≤ p by omega), decide_eq_true (show (0 : Int) ≤ q by omega), decide_eq_true (show (p : Int) < ns.length by have := h.hp; omega), decide_eq_true (show (q : Int) < ns.length by have := h.hq; omega),
    Int.toNat_natCast, Int.toNat_natCast, decide_eq_true h.p0, decide_eq_true h.q0, decide_eq_true (show (p : Int) ≠ q by have := h.ne; omega), decide_eq_true (show (k : Int) ≥ 0 by omega)]
  rfl
theorem dd3 {H : Hp} {xs : List V} {ds : List PyData} (r : DdAll H xs ds) (h : xs.length = 3) :
    ∃ x1 x2 x3 d1 d2 d3, xs = [x1, x2, x3] ∧ ds = [d1, d2, d3] ∧ Dd H x1 d1 ∧ Dd H x2 d2 ∧ Dd H x3 d3 := by
  cases r with
  | nil => cases h
  | cons a r =>
    cases r with
    | nil => cases h
    | cons b r =>
      cases r with
      | nil => cases h
      | cons c r =>
        cases r with
        | nil => exact ⟨_, _, _, _, _, _, rfl, rfl, a, b, c⟩
        | cons d r => cases h
theorem ddRun {H : Hp} {x : V} {p q k : Int} (h : Dd H x (.tuple [.int p, .int q, .int k])) : ∃ b, x = .ref b ∧ H b = some (.tup [.int p, .int q, .int k]) := by
  cases h with
  | tup e r =>
    cases r with
    | cons a r =>
      cases r with
      | cons b r =>
        cases r with
        | cons c r =>
          cases r
          cases a
          cases b
          cases c
          exact ⟨_, rfl, e⟩
section
variable {P : Program} {w : World} {K : PySem.W.Frag} {mg : Str → Option Value} {base : Heap}
def spIsRun : Sp := fun vs H Q _ => ∃ a ns x d, vs = [.ref a, x] ∧ Rw H a ns ∧ Dd H x d ∧ Q (.bl (runD ns d)) H
theorem ok_isRun {f fA fW : Addr} {fd fdA fdW : FuncData} {k : Nat} (F : Fun K "is_run_of_two" "is_run_of_two" sIsRun f fd) (FA : Fun K "are_two_holders" "are_two_holders" sAre fA fdA) (bA : Binds K fdA ["row", "i", "j"] []) (gA : mg "are_two_holders" = some (.ref fA)) (GA : FnOk P w K mg base CX0 (k + 3) fA fdA ["row", "i", "j"] spAre)
    (FW : Fun K "is_whole" "is_whole" sWhole fW fdW) (bW : Binds K fdW ["thing"] []) (gW : mg "is_whole" = some (.ref fW)) (mi : mg "isinstance" = none) (mI : mg "int" = none) (mB : mg "bool" = none) (mT : mg "tuple" = none) (ml : mg "len" = none) :
    FnOk P w K mg base CX0 (k + 4) f fd ["row", "thing"] spIsRun := by
  have GW : FnOk P w K mg base CX0 (k + 1) fW fdW ["thing"] spWhole := ok_whole FW mi mI mB
  refine F.ok scIsRun (fun vs H Q E h => ?_) (fun cdv A outer s H vs Q E hr h => ?_)
  · obtain ⟨a, ns, x, d, rfl, _⟩ := h
    rfl
  · obtain ⟨a, ns, x, d, rfl, r, hd, q⟩ := h
    have hr1 := hr.mono (show k + 1 ≤ k + 3 by omega)
    refine ⟨_, pss_cons (ps_if (PW.pt (pw_or (pt_not (pt_val (pe_callB call_isi (by rfl) mi (by decide +kernel) (pa_cons (pv 1) (pa_cons (pe_bltn (v := .ty "tuple") (by rfl) mT (by decide +kernel) rfl) pa_nil)))))
          (pw_or1 (pt_cmpR op_ne (pe_callB call_len_seq (by rfl) ml PySem.boot_len (pa_cons (pv 1) pa_nil)) pe_int (nomark _))))) (pss_one (ps_ret pe_bl)) pss_nil)
      (pss_cons (ps_asg (pv 1) (pg_tup rfl (pgs_cons (pg_name (i := 2) scIsRun.nd rfl (.inl rfl)) (pgs_cons (pg_name (i := 3) scIsRun.nd rfl (.inl rfl)) (pgs_cons (pg_name (i := 4) scIsRun.nd rfl (.inl rfl)) pgs_nil)))))
      (pss_one (ps_ret (pe_and (pe_call GA hr (by rfl) gA FA.kp bA .nil pass0 (pa_cons (pv 0) (pa_cons (pv 2) (pa_cons (pv 3) pa_nil)))) (pe_and (pe_call GW hr1 (by rfl) gW FW.kp bW .nil pass0 (pa_cons (pv 4) pa_nil)) (pe_one (pe_cmpR op_ge (pv 4) pe_int (nomark _)))))))), ?_⟩
    refine ⟨_, rfl, x, _, _, _, _, rfl, .ty "tuple", hd.ty, kit_tuple _ d, isTupD d, rfl, ?_⟩
    cases ht : isTupD d with
    | false =>
      have e0 : runD ns d = false := by cases d <;> first | rfl | cases ht
      rw [e0] at q
      exact iteT (iteT q)
    | true =>
      cases hd with
      | @tup b xs ds e rr =>
        have hl := rr.length
        have hS : SqT K H b xs := SqT.of e
        refine iteF ⟨.ref b, rfl, b, xs, rfl, .inr hS, rfl, _, rfl, ite2 (fun h3 => ?_) (fun h3 => ?_)⟩
        · have h3' : ds.length ≠ 3 := fun z => by
            rw [decide_eq_true (show V.int (xs.length : Nat) = V.int 3 by rw [← hl, z]; rfl)] at h3
            cases h3
          have e0 : runD ns (.tuple ds) = false := by
            match ds, h3' with
            | [], _ => rfl
            | [_], _ => rfl
            | [_, _], _ => rfl
            | [_, _, _], h => exact absurd rfl h
            | _ :: _ :: _ :: _ :: _, _ => rfl
          rw [e0] at q
          exact q
        · have h3' : xs.length = 3 := by
            refine Classical.byContradiction fun z => h3 ?_
            rw [decide_eq_false (show ¬ V.int (xs.length : Nat) = V.int 3 from fun w => z (by have := V.int.inj w; omega))]
            rfl
          obtain ⟨x1, x2, x3, d1, d2, d3, rfl, rfl, r1, r2, r3⟩ := dd3 rr h3'
          · skip
            refine ⟨.ref b, rfl, b, _, rfl, hS, rfl, _, _, rfl, _, _, rfl, _, _, rfl, rfl, ?_⟩
            refine ⟨_, rfl, _, rfl, _, rfl, a, ns, x1, x2, d1, d2, rfl, r, r1, r2, twoD ns d1 d2, rfl, ?_⟩
            have eq : runD ns (.tuple [d1, d2, d3]) = (twoD ns d1 d2 && nnK d3) := rfl
            rw [eq] at q
            cases h4 : twoD ns d1 d2 with
            | false =>
              rw [h4] at q
              exact iteF q
            | true =>
              rw [h4, Bool.true_and] at q
              refine iteT ⟨_, rfl, x3, d3, rfl, r3, wholeD d3, rfl, ?_⟩
              cases h5 : wholeD d3 with
              | false =>
                have e0 : nnK d3 = false := by cases d3 <;> first | rfl | cases h5
                rw [e0] at q
                exact iteF q
              | true =>
                cases r3 with
                | int n => exact iteT ⟨_, rfl, n, 0, rfl, rfl, q⟩
                | _ => cases h5
      | _ => cases ht
def spMay : Sp := fun vs H Q _ => ∃ a ns x d, vs = [.ref a, x] ∧ Rw H a ns ∧ Dd H x d ∧ Q (.bl (mayD ns d)) H
theorem ok_may {f fR fE : Addr} {fd fdR fdE : FuncData} {k : Nat} (F : Fun K "may_run" "may_run" sMay f fd) (FR : Fun K "is_run_of_two" "is_run_of_two" sIsRun fR fdR) (bR : Binds K fdR ["row", "thing"] []) (gR : mg "is_run_of_two" = some (.ref fR)) (GR : FnOk P w K mg base CX0 (k + 4) fR fdR ["row", "thing"] spIsRun)
    (FE : Fun K "ended_by" "ended_by" sEnded fE fdE) (bE : Binds K fdE ["row", "i", "j"] []) (gE : mg "ended_by" = some (.ref fE)) (GE : FnOk P w K mg base CX0 (k + 3) fE fdE ["row", "i", "j"] spEnded) : FnOk P w K mg base CX0 (k + 5) f fd ["row", "run"] spMay := by
  refine F.ok scMay (fun vs H Q E h => ?_) (fun cdv A outer s H vs Q E hr h => ?_)
  · obtain ⟨a, ns, x, d, rfl, _⟩ := h
    rfl
  · obtain ⟨a, ns, x, d, rfl, r, hd, q⟩ := h
    have hr1 := hr.mono (show k + 3 ≤ k + 4 by omega)
    refine ⟨_, pss_cons (ps_if (pt_not (pt_val (pe_call GR hr (by rfl) gR FR.kp bR .nil pass0 (pa_cons (pv 0) (pa_cons (pv 1) pa_nil))))) (pss_one (ps_ret pe_bl)) pss_nil)
      (pss_cons (ps_asg (pv 1) (pg_tup rfl (pgs_cons (pg_name (i := 2) scMay.nd rfl (.inl rfl)) (pgs_cons (pg_name (i := 3) scMay.nd rfl (.inl rfl)) (pgs_cons (pg_name (i := 4) scMay.nd rfl (.inl rfl)) pgs_nil)))))
      (pss_cons (ps_set (i := 5) scMay.nd rfl (.inl rfl) (pe_call GE hr1 (by rfl) gE FE.kp bE .nil pass0 (pa_cons (pv 0) (pa_cons (pv 2) (pa_cons (pv 3) pa_nil)))))
      (pss_one (ps_ret (pe_or (pe_cmp (pc_isN (pv 5)) rfl) (pe_one (pe_cmpR op_le (pv 4) (pv 5) (nomark _)))))))), ?_⟩
    refine ⟨_, rfl, _, rfl, a, ns, x, d, rfl, r, hd, runD ns d, rfl, ?_⟩
    cases hrun : runD ns d with
    | false =>
      have e0 : mayD ns d = false := by
        unfold mayD
        split
        · rw [hrun]; rfl
        · rfl
      rw [e0] at q
      exact iteT q
    | true =>
      obtain ⟨p, p2, n, rfl, ok⟩ := runD_int hrun
      rw [mayD_eq, hrun, Bool.true_and, Int.toNat_natCast, Int.toNat_natCast] at q
      obtain ⟨b, rfl, e⟩ := ddRun hd
      refine iteF ⟨.ref b, rfl, b, _, rfl, SqT.of e, rfl, _, _, rfl, _, _, rfl, _, _, rfl, rfl, ?_⟩
      refine ⟨_, rfl, _, rfl, _, rfl, a, ns, p, p2, rfl, r, ok.hp, ok.hq, ok.p0, ok.q0, ?_⟩
      unfold mayK at q
      cases hdue : due (ns.getD p 0).toNat (ns.getD p2 0).toNat with
      | none =>
        rw [hdue] at q
        exact ⟨_, rfl, true, rfl, iteT q⟩
      | some m =>
        rw [hdue] at q
        exact ⟨_, rfl, false, rfl, iteF ⟨_, rfl, _, rfl, (n : Int), (m : Int), rfl, rfl, q⟩⟩
def spDbl : Sp := fun vs H Q _ => ∃ am ti wh : Nat, vs = [.int am, .int ti, .int wh] ∧ 0 < wh ∧ wh < 2 ^ 130 ∧ Q (.int (am * 2 ^ ti % wh : Nat)) H
theorem dbl_odd {r f t wh : Nat} (h : t % 2 = 1) : (r * f % wh) * (f * f % wh) ^ (t / 2) % wh = r * f ^ t % wh := by
  have e : f ^ t = f * (f * f) ^ (t / 2) := by
    rw [← Nat.pow_two, ← Nat.pow_mul, Nat.mul_comm f, ← Nat.pow_succ]
    congr 1
    omega
  rw [e, Nat.mul_mod, Nat.mod_mod, Nat.pow_mod, Nat.mod_mod, ← Nat.pow_mod, ← Nat.mul_mod, Nat.mul_assoc]
theorem dbl_even {r f t wh : Nat} (h : t % 2 = 0) : r * (f * f % wh) ^ (t / 2) % wh = r * f ^ t % wh := by
  have e : f ^ t = (f * f) ^ (t / 2) := by
    rw [← Nat.pow_two, ← Nat.pow_mul]
    congr 1
    omega
  rw [e, Nat.mul_mod, Nat.pow_mod, Nat.mod_mod, ← Nat.pow_mod, ← Nat.mul_mod]
theorem ok_dbl {f : Addr} {fd : FuncData} {k : Nat} (F : Fun K "doubled_by_rests" "doubled_by_rests" sDbl f fd) : FnOk P w K mg base CX0 (k + 1) f fd ["amount", "times", "whole"] spDbl := by
  refine F.ok scDbl (fun vs H Q E h => ?_) (fun cdv A outer s H vs Q E hr h => ?_)
  · obtain ⟨am, ti, wh, rfl, _⟩ := h
    rfl
  · obtain ⟨am, ti, wh, rfl, h0, h1, q⟩ := h
    refine ⟨_, pss_cons (ps_set (i := 3) scDbl.nd rfl (.inl rfl) (pe_op op_mod (pv 0) (pv 2)))
      (pss_cons (ps_set (i := 4) scDbl.nd rfl (.inl rfl) (pe_op op_mod pe_int (pv 2)))
      (pss_cons (ps_while PassesOwn.never (pt_cmpR op_gt (pv 1) pe_int (nomark _))
        (pss_mid (ps_if (pt_truth (pe_op op_and (pv 1) pe_int) (by intro _; rfl)) (pss_one (ps_set (i := 3) scDbl.nd rfl (.inl rfl) (pe_op op_mod (pe_op op_mulW (pv 3) (pv 4)) (pv 2)))) pss_nil)
        (pss_cons (ps_set (i := 4) scDbl.nd rfl (.inl rfl) (pe_op op_mod (pe_op op_mulW (pv 4) (pv 4)) (pv 2)))
        (pss_one (ps_set (i := 1) scDbl.nd rfl (.inl rfl) (pe_op op_shr (pv 1) pe_int))))))
      (pss_one (ps_ret (pv 3))))), ?_⟩
    have hw : (fun (_ j : Int) => 0 < j) (am : Int) (wh : Int) := show (0 : Int) < wh by omega
    refine ⟨_, rfl, _, rfl, (am : Int), (wh : Int), rfl, rfl, hw, _, rfl, 2, (wh : Int), rfl, rfl, hw, ?_⟩
    have wm : ∀ {x y : Nat}, x < wh → y < wh → CMulW (x : Int) (y : Int) := fun hx hy => wide_mul (a := 130) (b := 130) (by omega) (by omega) (by decide) (by decide) (by decide)
    have hm : ∀ x : Nat, x % wh < wh := fun x => Nat.mod_lt _ h0
    refine while_by (fun σ H' => ∃ t r f : Nat, σ = [some (.int am), some (.int t), some (.int wh), some (.int r), some (.int f)] ∧ H' = H ∧ r < wh ∧ f < wh ∧ r * f ^ t % wh = am * 2 ^ ti % wh) (fun σ _ => match σ with | [_, some (.int t), _, _, _] => t.toNat | _ => 0) ⟨ti, am % wh, 2 % wh, ?_, rfl, hm _, hm _, ?_⟩ ?_ ?_
    · rw [Int.natCast_emod, Int.natCast_emod]; rfl
    · rw [Nat.mul_mod, Nat.mod_mod, Nat.pow_mod, Nat.mod_mod, ← Nat.pow_mod, ← Nat.mul_mod]
    · rintro σ H' ⟨t, r, f, rfl, rfl, hr', hf, inv⟩
      refine ⟨_, rfl, (t : Int), 0, rfl, rfl, _, rfl, ite2 (fun ht => ?_) (fun ht => ?_)⟩
      · have ht' : 0 < t := by have := of_decide_eq_true ht; omega
        have step : ∀ r' : Nat, r' < wh → r' * (f * f % wh) ^ (t / 2) % wh = am * 2 ^ ti % wh →
            (∃ t2 r2 f2 : Nat, [some (V.int am), some (V.int ((t : Int) / 2 ^ (1 : Int).toNat)), some (V.int wh), some (V.int r'), some (V.int ((f : Int) * (f : Int) % (wh : Int)))] = [some (.int am), some (.int t2), some (.int wh), some (.int r2), some (.int f2)] ∧ H' = H' ∧ r2 < wh ∧ f2 < wh ∧ r2 * f2 ^ t2 % wh = am * 2 ^ ti % wh) ∧ ((t : Int) / 2 ^ (1 : Int).toNat).toNat < (t : Int).toNat := by
          intro r' h2 h3
          refine ⟨⟨t / 2, r', f * f % wh, ?_, rfl, h2, hm _, h3⟩, ?_⟩
          · rw [Int.natCast_ediv, Int.natCast_emod, Int.natCast_mul]; rfl
          · show ((t : Int) / 2).toNat < (t : Int).toNat
            omega
        refine ⟨fun σ1 H1 => ∃ r' : Nat, σ1 = [some (.int am), some (.int t), some (.int wh), some (.int r'), some (.int f)] ∧ H1 = H' ∧ r' < wh ∧ r' * (f * f % wh) ^ (t / 2) % wh = am * 2 ^ ti % wh, ?_, ?_⟩
        · refine ⟨_, rfl, (t : Int), 1, rfl, rfl, ?_⟩
          dsimp only
          rw [bitAnd_m1]
          rcases Nat.mod_two_eq_zero_or_one t with z | z
          · refine ⟨false, ?_, iteF ⟨r, rfl, rfl, hr', by rw [dbl_even z]; exact inv⟩⟩
            show false = ((t : Int) % 2 != 0)
            rw [show (t : Int) % 2 = 0 by omega]
            rfl
          · refine ⟨true, ?_, iteT ⟨_, rfl, _, rfl, (r : Int), (f : Int), rfl, rfl, wm hr' hf, _, rfl, _, (wh : Int), rfl, rfl, hw, r * f % wh, ?_, rfl, hm _, by rw [dbl_odd z]; exact inv⟩⟩
            · show true = ((t : Int) % 2 != 0)
              rw [show (t : Int) % 2 = 1 by omega]
              rfl
            · rw [Int.natCast_emod, Int.natCast_mul]; rfl
        · rintro σ1 H1 ⟨r', rfl, rfl, h2, h3⟩
          exact ⟨_, rfl, _, rfl, (f : Int), (f : Int), rfl, rfl, wm hf hf, _, rfl, _, (wh : Int), rfl, rfl, hw, _, rfl, (t : Int), 1, rfl, rfl, (by show (0 : Int) ≤ 1; decide), step r' h2 h3⟩
      · have ht' : t = 0 := by
          have : ¬ (t : Int) > 0 := fun z => ht (decide_eq_true z)
          omega
        subst ht'
        rw [Nat.pow_zero, Nat.mul_one, Nat.mod_eq_of_lt hr'] at inv
        refine ⟨_, rfl, ?_⟩
        rw [inv]
        exact q
    · rintro σ H' Q1 Q2 hq ⟨x, e1, i, j, e2, e3, z, e4, h⟩
      exact ⟨x, e1, i, j, e2, e3, z, e4, hq _ _ h⟩
end
end K06

namespace K06
open PySem PySem.Spec PyProof.Rows L2 MG
/-- what the first one has behind k deeds -/
def restI (ns : List Int) (p q k : Nat) : Int := (((ns.getD p 0).toNat * 2 ^ k % ((ns.getD p 0).toNat + (ns.getD q 0).toNat) : Nat) : Int)
def ranL (ns : List Int) (p q k : Nat) : List Int := (ns.set p (restI ns p q k)).set q (ns.getD p 0 + ns.getD q 0 - restI ns p q k)
theorem map_set {l : List Int} {i : Nat} {v : Int} : (l.map V.int).set i (.int v) = (l.set i v).map V.int := by
  rw [List.map_set]
abbrev sLDbl : Stmt := topS 21
abbrev sParts : Stmt := topS 22
abbrev sBehind : Stmt := topS 25
theorem scLDbl : FnScope ["_law_amount", "_law_many", "_law_both", "_law_factor", "_law_power"] ["_law_amount", "_law_many", "_law_both"] (defScope sLDbl) := ⟨rfl, rfl, rfl, by decide +kernel, rfl, by decide +kernel, by decide +kernel⟩
theorem scParts : FnScope ["_law_first", "_law_second", "_law_one", "_law_other", "_law_left", "_law_often"] ["_law_first", "_law_second"] (defScope sParts) := ⟨rfl, rfl, rfl, by decide +kernel, rfl, by decide +kernel, by decide +kernel⟩
theorem scBehind : FnScope ["_law_here", "_law_one", "_law_two_here", "_law_many", "_law_both", "_law_rest", "_law_some"] ["_law_here", "_law_one", "_law_two_here", "_law_many"] (defScope sBehind) := ⟨rfl, rfl, rfl, by decide +kernel, rfl, by decide +kernel, by decide +kernel⟩
theorem mem_getD {ns : List Int} {p : Nat} (h : p < ns.length) : ns.getD p 0 ∈ ns := by
  rw [List.getD_eq_getElem?_getD, List.getElem?_eq_getElem h]; exact List.getElem_mem h
theorem ixN_nat {n i : Nat} (h : i < n) : ixN n (i : Int) = some i := by
  unfold ixN
  rw [if_pos (by omega), if_pos (by omega)]
  rfl
section
variable {P : Program} {w : World} {K : PySem.W.Frag} {mg : Str → Option Value} {base : Heap}
def spRan : Sp := fun vs H Q _ => ∃ a ns x, ∃ p q k : Nat, vs = [.ref a, x] ∧ Rw H a ns ∧ Dd H x (.tuple [.int p, .int q, .int k]) ∧ RunOk ns p q ∧ mayK ns p q k = true ∧ ∀ t H', Same H H' → H' t = some (.tup ((ranL ns p q k).map V.int)) → Q (.ref t) H'
theorem ok_ran {f fM fD : Addr} {fd fdM fdD : FuncData} {k : Nat} (F : Fun K "ran" "ran" sRan f fd) (FM : Fun K "may_run" "may_run" sMay fM fdM) (bM : Binds K fdM ["row", "run"] []) (gM : mg "may_run" = some (.ref fM)) (GM : FnOk P w K mg base CX0 (k + 5) fM fdM ["row", "run"] spMay)
    (FD : Fun K "doubled_by_rests" "doubled_by_rests" sDbl fD fdD) (bD : Binds K fdD ["amount", "times", "whole"] []) (gD : mg "doubled_by_rests" = some (.ref fD)) (mL : mg "list" = none) (mT : mg "tuple" = none) : FnOk P w K mg base CX0 (k + 6) f fd ["row", "run"] spRan := by
  have GD : FnOk P w K mg base CX0 (k + 1) fD fdD ["amount", "times", "whole"] spDbl := ok_dbl FD
  refine F.ok scRan (fun vs H Q E h => ?_) (fun cdv A outer s H vs Q E hr h => ?_)
  · obtain ⟨a, ns, x, p, q, k, rfl, _⟩ := h
    rfl
  · obtain ⟨a, ns, x, p, p2, n, rfl, r, hd, ok, hmay, q⟩ := h
    have hr1 := hr.mono (show k + 1 ≤ k + 5 by omega)
    refine ⟨_, pss_cons (ps_if (pt_not (pt_val (pe_call GM hr (by rfl) gM FM.kp bM .nil pass0 (pa_cons (pv 0) (pa_cons (pv 1) pa_nil))))) pss_never pss_nil)
      (pss_cons (ps_asg (pv 1) (pg_tup rfl (pgs_cons (pg_name (i := 2) scRan.nd rfl (.inl rfl)) (pgs_cons (pg_name (i := 3) scRan.nd rfl (.inl rfl)) (pgs_cons (pg_name (i := 4) scRan.nd rfl (.inl rfl)) pgs_nil)))))
      (pss_cons (ps_set (i := 5) scRan.nd rfl (.inl rfl) (pe_op op_add (pe_ix ix_tup (pv 0) (pv 2) (fun _ _ => rfl)) (pe_ix ix_tup (pv 0) (pv 3) (fun _ _ => rfl))))
      (pss_cons (ps_set (i := 6) scRan.nd rfl (.inl rfl) (pe_callTy call_list_of (by rfl) mL (by decide +kernel) (pa_cons (pv 0) pa_nil)))
      (pss_cons (ps_asg (pe_call GD hr1 (by rfl) gD FD.kp bD .nil pass0 (pa_cons (pe_ix ix_tup (pv 0) (pv 2) (fun _ _ => rfl)) (pa_cons (pv 4) (pa_cons (pv 5) pa_nil)))) (pg_sub (pv 6) (pv 2) set_list))
      (pss_cons (ps_asg (pe_op op_sub (pv 5) (pe_ix ix_list (pv 6) (pv 2) (fun _ _ => rfl))) (pg_sub (pv 6) (pv 3) set_list))
      (pss_one (ps_ret (pe_callTy call_tuple_of (by rfl) mT (by decide +kernel) (pa_cons (pv 6) pa_nil))))))))), ?_⟩
    have hS : SqT K H a (ns.map V.int) := SqT.of r.1
    refine ⟨_, rfl, _, rfl, a, ns, x, _, rfl, r, hd, _, rfl, ?_⟩
    rw [mayD_eq, runD_of ok, Int.toNat_natCast, Int.toNat_natCast, hmay]
    obtain ⟨b, rfl, eb⟩ := ddRun hd
    refine iteF ⟨.ref b, rfl, b, _, rfl, SqT.of eb, rfl, _, _, rfl, _, _, rfl, _, _, rfl, rfl, ?_⟩
    have lp := r.2.1 _ (mem_getD ok.hp)
    have lq := r.2.1 _ (mem_getD ok.hq)
    have p0 := ok.p0
    have q0 := ok.q0
    have ep : ((ns.getD p 0).toNat : Int) = ns.getD p 0 := Int.toNat_of_nonneg lp.1
    have eq : ((ns.getD p2 0).toNat : Int) = ns.getD p2 0 := Int.toNat_of_nonneg lq.1
    refine ⟨.ref a, rfl, _, rfl, a, _, (p : Int), .int (ns.getD p 0), rfl, rfl, hS, atI_nat (getD_at ok.hp), .ref a, rfl, _, rfl, a, _, (p2 : Int), .int (ns.getD p2 0), rfl, rfl, hS, atI_nat (getD_at ok.hq), _, _, rfl, rfl, ?_⟩
    refine ⟨.ref a, rfl, a, _, rfl, .inr hS, fun l nl => ?_⟩
    have s1 : Same H (upd H l (.lst (ns.map V.int))) := same_upd nl
    have g1 : upd H l (.lst (ns.map V.int)) l = some (.lst (ns.map V.int)) := upd_same
    generalize upd H l (HO.lst (ns.map V.int)) = H1 at s1 g1 ⊢
    refine ⟨.ref a, rfl, _, rfl, a, _, (p : Int), .int (ns.getD p 0), rfl, rfl, SqT.of (s1 _ _ r.1), atI_nat (getD_at ok.hp), _, rfl, _, rfl, (ns.getD p 0).toNat, n, (ns.getD p 0).toNat + (ns.getD p2 0).toNat, ?_, by omega, by omega, ?_⟩
    · rw [Int.natCast_add, ep, eq]; rfl
    refine ⟨_, rfl, _, rfl, l, _, (p : Int), p, rfl, rfl, g1, ixN_nat (by rw [List.length_map]; exact ok.hp), ?_⟩
    rw [show (((ns.getD p 0).toNat * 2 ^ n % ((ns.getD p 0).toNat + (ns.getD p2 0).toNat) : Nat) : Int) = restI ns p p2 n from rfl, map_set]
    have g2 : upd H1 l (.lst ((ns.set p (restI ns p p2 n)).map V.int)) l = some (.lst ((ns.set p (restI ns p p2 n)).map V.int)) := upd_same
    have s2 : Same H (upd H1 l (.lst ((ns.set p (restI ns p p2 n)).map V.int))) := fun c o hc => by
      rw [upd_ne (ne_of_none hc nl)]
      exact s1 c o hc
    generalize upd H1 l (HO.lst ((ns.set p (restI ns p p2 n)).map V.int)) = H2 at s2 g2 ⊢
    have hx : ((ns.set p (restI ns p p2 n)).map V.int)[p]? = some (.int (restI ns p p2 n)) := by
      rw [List.getElem?_map, List.getElem?_set_self ok.hp]; rfl
    refine ⟨_, rfl, _, rfl, _, rfl, l, _, (p : Int), .int (restI ns p p2 n), rfl, rfl, SqL.of g2, atI_nat hx, _, _, rfl, rfl, _, rfl, _, rfl, l, _, (p2 : Int), p2, rfl, rfl, g2, ixN_nat (by rw [List.length_map, List.length_set]; exact ok.hq), ?_⟩
    rw [map_set]
    refine ⟨_, rfl, l, _, rfl, .inl ⟨SqL.of upd_same, fun t nt => ?_⟩⟩
    refine q t _ ?_ upd_same
    intro c o hc
    have h3 : (upd H2 l (.lst ((ranL ns p p2 n).map V.int))) c = some o := by
      rw [upd_ne (ne_of_none hc nl)]
      exact s2 c o hc
    rw [upd_ne (ne_of_none h3 nt)]
    exact h3

theorem ok_ldbl {f : Addr} {fd : FuncData} {k : Nat} (F : Fun K "_law_doubled" "_law_doubled" sLDbl f fd) : FnOk P w K mg base CX0 (k + 1) f fd ["_law_amount", "_law_many", "_law_both"] (fun vs H Q _ => ∃ am ti wh : Nat, vs = [.int am, .int ti, .int wh] ∧ am < 2 ^ 130 ∧ 1 < wh ∧ wh < 2 ^ 130 ∧ Q (.int (am * 2 ^ ti % wh : Nat)) H) := by
  refine F.ok scLDbl (fun vs H Q E h => ?_) (fun cdv A outer s H vs Q E hr h => ?_)
  · obtain ⟨am, ti, wh, rfl, _⟩ := h
    rfl
  · obtain ⟨am, ti, wh, rfl, ha, h0, h1, q⟩ := h
    refine ⟨_, pss_cons (ps_par (i := 3) (j := 4) rfl scLDbl.nd rfl rfl (by decide) rfl rfl (pa_cons pe_int (pa_cons (pe_op op_mod pe_int (pv 2)) pa_nil)) (by rfl))
      (pss_cons (ps_while PassesOwn.never (pt_cmpR op_gt (pv 1) pe_int (nomark _))
        (pss_mid (ps_if (pt_cmpR op_eq (pe_op op_mod (pv 1) pe_int) pe_int (nomark _)) (pss_one (ps_set (i := 3) scLDbl.nd rfl (.inl rfl) (pe_op op_mod (pe_op op_mulW (pv 3) (pv 4)) (pv 2)))) pss_nil)
        (pss_cons (ps_set (i := 4) scLDbl.nd rfl (.inl rfl) (pe_op op_mod (pe_op op_mulW (pv 4) (pv 4)) (pv 2)))
        (pss_one (ps_set (i := 1) scLDbl.nd rfl (.inl rfl) (pe_op op_fdiv (pv 1) pe_int))))))
      (pss_one (ps_ret (pe_op op_mod (pe_op op_mulW (pv 0) (pv 3)) (pv 2))))), ?_⟩
    have hw : (fun (_ j : Int) => 0 < j) (am : Int) (wh : Int) := show (0 : Int) < wh by omega
    refine ⟨_, rfl, 2, (wh : Int), rfl, rfl, hw, _, _, rfl, ?_⟩
    have wm : ∀ {x y : Nat}, x < 2 ^ 130 → y < 2 ^ 130 → CMulW (x : Int) (y : Int) := fun hx hy => wide_mul (a := 130) (b := 130) (by omega) (by omega) (by decide) (by decide) (by decide)
    have hm : ∀ x : Nat, x % wh < wh := fun x => Nat.mod_lt _ (by omega)
    refine while_by (fun σ H' => ∃ t r f : Nat, σ = [some (.int am), some (.int t), some (.int wh), some (.int r), some (.int f)] ∧ H' = H ∧ r < wh ∧ f < wh ∧ r * f ^ t % wh = 2 ^ ti % wh) (fun σ _ => match σ with | [_, some (.int t), _, _, _] => t.toNat | _ => 0) ⟨ti, 1, 2 % wh, ?_, rfl, h0, hm _, ?_⟩ ?_ ?_
    · rw [Int.natCast_emod]; rfl
    · rw [Nat.one_mul, Nat.pow_mod, Nat.mod_mod, ← Nat.pow_mod]
    · rintro σ H' ⟨t, r, f, rfl, rfl, hr', hf, inv⟩
      refine ⟨_, rfl, (t : Int), 0, rfl, rfl, _, rfl, ite2 (fun ht => ?_) (fun ht => ?_)⟩
      · have ht' : 0 < t := by have := of_decide_eq_true ht; omega
        have step : ∀ r' : Nat, r' < wh → r' * (f * f % wh) ^ (t / 2) % wh = 2 ^ ti % wh →
            (∃ t2 r2 f2 : Nat, [some (V.int am), some (V.int ((t : Int) / 2)), some (V.int wh), some (V.int r'), some (V.int ((f : Int) * (f : Int) % (wh : Int)))] = [some (.int am), some (.int t2), some (.int wh), some (.int r2), some (.int f2)] ∧ H' = H' ∧ r2 < wh ∧ f2 < wh ∧ r2 * f2 ^ t2 % wh = 2 ^ ti % wh) ∧ ((t : Int) / 2).toNat < (t : Int).toNat := by
          intro r' h2 h3
          refine ⟨⟨t / 2, r', f * f % wh, ?_, rfl, h2, hm _, h3⟩, ?_⟩
          · rw [Int.natCast_ediv, Int.natCast_emod, Int.natCast_mul]; rfl
          · omega
        refine ⟨fun σ1 H1 => ∃ r' : Nat, σ1 = [some (.int am), some (.int t), some (.int wh), some (.int r'), some (.int f)] ∧ H1 = H' ∧ r' < wh ∧ r' * (f * f % wh) ^ (t / 2) % wh = 2 ^ ti % wh, ?_, ?_⟩
        · refine ⟨_, rfl, (t : Int), 2, rfl, rfl, (by show (0 : Int) < 2; decide), rfl, _, rfl, ite2 (fun z => ?_) (fun z => ?_)⟩
          · have z' : t % 2 = 1 := by have := V.int.inj (of_decide_eq_true z); omega
            refine ⟨_, rfl, _, rfl, (r : Int), (f : Int), rfl, rfl, wm (by omega) (by omega), _, rfl, _, (wh : Int), rfl, rfl, hw, r * f % wh, ?_, rfl, hm _, by rw [dbl_odd z']; exact inv⟩
            rw [Int.natCast_emod, Int.natCast_mul]; rfl
          · have z' : t % 2 = 0 := by
              have : ¬ t % 2 = 1 := fun w => z (decide_eq_true (by
                show V.int ((t : Int) % 2) = V.int 1
                rw [show (t : Int) % 2 = 1 by omega]))
              omega
            exact ⟨r, rfl, rfl, hr', by rw [dbl_even z']; exact inv⟩
        · rintro σ1 H1 ⟨r', rfl, rfl, h2, h3⟩
          exact ⟨_, rfl, _, rfl, (f : Int), (f : Int), rfl, rfl, wm (by omega) (by omega), _, rfl, _, (wh : Int), rfl, rfl, hw, _, rfl, (t : Int), 2, rfl, rfl, ⟨by decide, by decide⟩, step r' h2 h3⟩
      · have ht' : t = 0 := by
          have : ¬ (t : Int) > 0 := fun z => ht (decide_eq_true z)
          omega
        subst ht'
        rw [Nat.pow_zero, Nat.mul_one, Nat.mod_eq_of_lt hr'] at inv
        refine ⟨_, rfl, _, rfl, (am : Int), (r : Int), rfl, rfl, wm ha (by omega), _, rfl, _, (wh : Int), rfl, rfl, hw, ?_⟩
        have e : (am * r) % wh = am * 2 ^ ti % wh := by rw [inv, Nat.mul_mod, Nat.mod_mod, ← Nat.mul_mod]
        rw [← e, Int.natCast_emod, Int.natCast_mul] at q
        exact q
    · rintro σ H' Q1 Q2 hq ⟨x, e1, i, j, e2, e3, z, e4, h⟩
      exact ⟨x, e1, i, j, e2, e3, z, e4, hq _ _ h⟩

def spParts : Sp := fun vs H Q _ => ∃ x y : Nat, vs = [.int x, .int y] ∧ 0 < x ∧ 0 < y ∧ x < 2 ^ 130 ∧ y < 2 ^ 130 ∧ ∀ t H', Same H H' → H' t = some (.tup [.int (v2 (shares x y) : Nat), .int (shares x y / 2 ^ v2 (shares x y) : Nat)]) → Q (.ref t) H'
theorem ok_parts {f : Addr} {fd : FuncData} {k : Nat} (F : Fun K "_law_parts" "_law_parts" sParts f fd) : FnOk P w K mg base CX0 (k + 1) f fd ["_law_first", "_law_second"] spParts := by
  refine F.ok scParts (fun vs H Q E h => ?_) (fun cdv A outer s H vs Q E hr h => ?_)
  · obtain ⟨x, y, rfl, _⟩ := h
    rfl
  · obtain ⟨a, b, rfl, a0, b0, a1, b1, q⟩ := h
    refine ⟨_, pss_cons (ps_par (i := 2) (j := 3) rfl scParts.nd rfl rfl (by decide) rfl rfl (pa_cons (pv 0) (pa_cons (pv 1) pa_nil)) (by rfl))
      (pss_cons (ps_while PassesOwn.never (pt_cmpR op_gt (pv 3) pe_int (nomark _)) (pss_one (ps_par (i := 2) (j := 3) rfl scParts.nd rfl rfl (by decide) rfl rfl (pa_cons (pv 3) (pa_cons (pe_op op_mod (pv 2) (pv 3)) pa_nil)) (by rfl))))
      (pss_cons (ps_par (i := 4) (j := 5) rfl scParts.nd rfl rfl (by decide) rfl rfl (pa_cons (pe_op op_fdivW (pe_op op_add (pv 0) (pv 1)) (pv 2)) (pa_cons pe_int pa_nil)) (by rfl))
      (pss_cons (ps_while PassesOwn.never (pt_cmpR op_eq (pe_op op_mod (pv 4) pe_int) pe_int (nomark _)) (pss_one (ps_par (i := 4) (j := 5) rfl scParts.nd rfl rfl (by decide) rfl rfl (pa_cons (pe_op op_fdiv (pv 4) pe_int) (pa_cons (pe_op op_add (pv 5) pe_int) pa_nil)) (by rfl))))
      (pss_one (ps_ret (pe_tup (pa_cons (pv 5) (pa_cons (pv 4) pa_nil)))))))), ?_⟩
    refine ⟨_, rfl, _, rfl, _, _, rfl, ?_⟩
    refine while_by (fun σ H' => ∃ x y : Nat, σ = [some (.int a), some (.int b), some (.int x), some (.int y), none, none] ∧ H' = H ∧ Nat.gcd x y = Nat.gcd a b) (fun σ _ => match σ with | [_, _, _, some (.int y), _, _] => y.toNat | _ => 0) ⟨a, b, rfl, rfl, rfl⟩ ?_ ?_
    · rintro σ H' ⟨x, y, rfl, rfl, hg⟩
      refine ⟨_, rfl, (y : Int), 0, rfl, rfl, _, rfl, ite2 (fun hy => ?_) (fun hy => ?_)⟩
      · have hy' : 0 < y := by have := of_decide_eq_true hy; omega
        refine ⟨_, rfl, _, rfl, _, rfl, (x : Int), (y : Int), rfl, rfl, (by show (0 : Int) < y; omega), _, _, rfl, ⟨y, x % y, ?_, rfl, ?_⟩, ?_⟩
        · rw [Int.natCast_emod]; rfl
        · rw [← hg, Nat.gcd_comm x y, Nat.gcd_rec y x, Nat.gcd_comm]
        · show ((x : Int) % (y : Int)).toNat < (y : Int).toNat
          rw [← Int.natCast_emod]
          have := Nat.mod_lt x hy'
          omega
      · have hy' : y = 0 := by
          have : ¬ (y : Int) > 0 := fun z => hy (decide_eq_true z)
          omega
        subst hy'
        rw [Nat.gcd_zero_right] at hg
        subst hg
        have hg0 : 0 < Nat.gcd a b := Nat.gcd_pos_of_pos_left _ a0
        have hg1 : Nat.gcd a b ≤ a := Nat.le_of_dvd a0 (Nat.gcd_dvd_left _ _)
        have cd : CDivW ((a : Int) + b) (Nat.gcd a b : Nat) := wide_div (b := 130) (by omega) (by omega) (by decide) (by decide)
        have es : ((a : Int) + b) / (Nat.gcd a b : Nat) = (shares a b : Nat) := by
          unfold shares
          rw [Int.natCast_ediv, Int.natCast_add]
        have hs0 := shares_pos a0 b0
        refine ⟨_, rfl, _, rfl, (a : Int), (b : Int), rfl, rfl, _, rfl, _, _, rfl, rfl, cd, _, _, rfl, ?_⟩
        refine while_by (fun σ H'' => ∃ x m : Nat, σ = [some (.int a), some (.int b), some (.int (Nat.gcd a b : Nat)), some (.int (0 : Nat)), some (.int x), some (.int m)] ∧ H'' = H' ∧ 0 < x ∧ shares a b = 2 ^ m * x) (fun σ _ => match σ with | [_, _, _, _, some (.int x), _] => x.toNat | _ => 0) ⟨shares a b, 0, by rw [← es]; rfl, rfl, hs0, by rw [Nat.pow_zero, Nat.one_mul]⟩ ?_ ?_
        · rintro σ H2 ⟨x, m, rfl, rfl, hx0, hgx⟩
          refine ⟨_, rfl, (x : Int), 2, rfl, rfl, (by show (0 : Int) < 2; decide), rfl, _, rfl, ite2 (fun hev => ?_) (fun hod => ?_)⟩
          · have hev' : x % 2 = 0 := by
              have := V.int.inj (of_decide_eq_true hev)
              omega
            refine ⟨_, rfl, (x : Int), 2, rfl, rfl, ⟨by decide, by decide⟩, _, rfl, (m : Int), 1, rfl, rfl, _, _, rfl, ⟨x / 2, m + 1, ?_, rfl, by omega, ?_⟩, ?_⟩
            · rw [Int.natCast_ediv, Int.natCast_add]; rfl
            · rw [Nat.pow_succ, Nat.mul_assoc, show 2 * (x / 2) = x by omega]; exact hgx
            · show ((x : Int) / 2).toNat < (x : Int).toNat
              omega
          · have hod' : x % 2 = 1 := by
              have z : ¬ x % 2 = 0 := fun z => hod (decide_eq_true (by
                show V.int ((x : Int) % 2) = V.int 0
                rw [show ((x : Int) % 2) = 0 by omega]))
              omega
            have hm : m = v2 (shares a b) := (v2_unique hgx hod').symm
            have hxd : x = shares a b / 2 ^ v2 (shares a b) := by
              rw [← hm]
              exact (Nat.div_eq_of_eq_mul_right (Nat.two_pow_pos m) hgx).symm
            refine ⟨_, rfl, _, rfl, by show 2 ≤ sizeLine; decide, fun t nt => q t _ (same_upd nt) ?_⟩
            rw [upd_same, ← hxd, ← hm]
        · rintro σ H'' Q1 Q2 hq ⟨x, e1, i, j, e2, e3, e4, e5, z, e6, h⟩
          exact ⟨x, e1, i, j, e2, e3, e4, e5, z, e6, hq _ _ h⟩
    · rintro σ H' Q1 Q2 hq ⟨x, e1, i, j, e2, e3, z, e4, h⟩
      exact ⟨x, e1, i, j, e2, e3, z, e4, hq _ _ h⟩
end
end K06

namespace K06
open PySem PySem.Spec PyProof.Rows L2 MG
theorem map_set2 {l : List Int} {i : Nat} {v : Int} {o : HO} : HO.lst ((l.map V.int).set i (.int v)) = HO.lst ((l.set i v).map V.int) := by rw [map_set]
abbrev sTwo : Stmt := topS 23
abbrev sLine : Stmt := topS 24
theorem scTwo : FnScope ["_law_box_here", "_law_way", "_law_power", "_law_scale", "_law_first"] ["_law_box_here"] (defScope sTwo) := ⟨rfl, rfl, rfl, by decide +kernel, rfl, by decide +kernel, by decide +kernel⟩
section
variable {P : Program} {w : World} {K : PySem.W.Frag} {mg : Str → Option Value} {base : Heap}
def spBehind : Sp := fun vs H Q _ => ∃ a ns, ∃ p q k : Nat, vs = [.ref a, .int p, .int q, .int k] ∧ Rw H a ns ∧ RunOk ns p q ∧ ∀ t H', Same H H' → H' t = some (.tup ((ranL ns p q k).map V.int)) → Q (.ref t) H'
theorem ok_behind {f fD : Addr} {fd fdD : FuncData} {k : Nat} (F : Fun K "_law_behind" "_law_behind" sBehind f fd) (FD : Fun K "_law_doubled" "_law_doubled" sLDbl fD fdD) (bD : Binds K fdD ["_law_amount", "_law_many", "_law_both"] []) (gD : mg "_law_doubled" = some (.ref fD)) (mL : mg "list" = none) (mT : mg "tuple" = none) :
    FnOk P w K mg base CX0 (k + 2) f fd ["_law_here", "_law_one", "_law_two_here", "_law_many"] spBehind := by
  have GD := ok_ldbl (P := P) (w := w) (mg := mg) (base := base) (k := k) FD
  refine F.ok scBehind (fun vs H Q E h => ?_) (fun cdv A outer s H vs Q E hr h => ?_)
  · obtain ⟨a, ns, p, q, k, rfl, _⟩ := h
    rfl
  · obtain ⟨a, ns, p, p2, n, rfl, r, ok, q⟩ := h
    refine ⟨_, pss_cons (ps_set (i := 4) scBehind.nd rfl (.inl rfl) (pe_op op_add (pe_ix ix_tup (pv 0) (pv 1) (fun _ _ => rfl)) (pe_ix ix_tup (pv 0) (pv 2) (fun _ _ => rfl))))
      (pss_cons (ps_par (i := 5) (j := 6) rfl scBehind.nd rfl rfl (by decide) rfl rfl (pa_cons (pe_call GD hr (by rfl) gD FD.kp bD .nil pass0 (pa_cons (pe_ix ix_tup (pv 0) (pv 2) (fun _ _ => rfl)) (pa_cons (pv 3) (pa_cons (pv 4) pa_nil)))) (pa_cons (pe_callTy call_list_of (by rfl) mL (by decide +kernel) (pa_cons (pv 0) pa_nil)) pa_nil)) (by rfl))
      (pss_cons (ps_asg (pe_ifExp (pt_cmpR op_gt (pv 5) pe_int (nomark _)) (pe_tup (pa_cons (pe_op op_sub (pv 4) (pv 5)) (pa_cons (pv 5) pa_nil))) (pe_tup (pa_cons pe_int (pa_cons (pv 4) pa_nil))))
          (pg_tup rfl (pgs_cons (pg_sub (pv 6) (pv 1) set_list) (pgs_cons (pg_sub (pv 6) (pv 2) set_list) pgs_nil))))
      (pss_one (ps_ret (pe_callTy call_tuple_of (by rfl) mT (by decide +kernel) (pa_cons (pv 6) pa_nil)))))), ?_⟩
    have hS : SqT K H a (ns.map V.int) := SqT.of r.1
    have lp := r.2.1 _ (mem_getD ok.hp)
    have lq := r.2.1 _ (mem_getD ok.hq)
    have p0 := ok.p0
    have q0 := ok.q0
    refine ⟨.ref a, rfl, _, rfl, a, _, (p : Int), .int (ns.getD p 0), rfl, rfl, hS, atI_nat (getD_at ok.hp), .ref a, rfl, _, rfl, a, _, (p2 : Int), .int (ns.getD p2 0), rfl, rfl, hS, atI_nat (getD_at ok.hq), _, _, rfl, rfl, ?_⟩
    have hS2 : SqT K H a (ns.map V.int) := hS
    refine ⟨.ref a, rfl, _, rfl, a, _, (p2 : Int), .int (ns.getD p2 0), rfl, rfl, hS, atI_nat (getD_at ok.hq), _, rfl, _, rfl, (ns.getD p2 0).toNat, n, (ns.getD p 0).toNat + (ns.getD p2 0).toNat, ?_, by omega, by omega, by omega, ?_⟩
    · rw [Int.natCast_add, Int.toNat_of_nonneg lp.1, Int.toNat_of_nonneg lq.1]; rfl
    have hsum := rest_sum (a := (ns.getD p 0).toNat) (b := (ns.getD p2 0).toNat) (by omega) (by omega) n
    have hlt : (ns.getD p 0).toNat * 2 ^ n % ((ns.getD p 0).toNat + (ns.getD p2 0).toNat) < (ns.getD p 0).toNat + (ns.getD p2 0).toNat := Nat.mod_lt _ (by omega)
    have hri : restI ns p p2 n = (((ns.getD p 0).toNat * 2 ^ n % ((ns.getD p 0).toNat + (ns.getD p2 0).toNat) : Nat) : Int) := rfl
    have hsi : ns.getD p 0 + ns.getD p2 0 = (((ns.getD p 0).toNat + (ns.getD p2 0).toNat : Nat) : Int) := by rw [Int.natCast_add, Int.toNat_of_nonneg lp.1, Int.toNat_of_nonneg lq.1]
    have hL : ranL ns p p2 n = (ns.set p (restI ns p p2 n)).set p2 (ns.getD p 0 + ns.getD p2 0 - restI ns p p2 n) := rfl
    generalize restI ns p p2 n = rI at hri hL
    generalize (ns.getD p 0).toNat * 2 ^ n % ((ns.getD p 0).toNat + (ns.getD p2 0).toNat) = x1 at hsum hlt hri
    generalize (ns.getD p2 0).toNat * 2 ^ n % ((ns.getD p 0).toNat + (ns.getD p2 0).toNat) = x2 at hsum ⊢
    generalize (ns.getD p 0).toNat + (ns.getD p2 0).toNat = sm at hsum hlt hsi
    have fin : ∀ X Y : Int, X = rI → Y = ns.getD p 0 + ns.getD p2 0 - rI → ∀ G : Hp, Same H G → ∀ l, H l = none → G l = some (.lst (ns.map V.int)) → ∀ t, (upd (upd G l (.lst ((ns.map V.int).set p (.int X)))) l (.lst (((ns.map V.int).set p (.int X)).set p2 (.int Y)))) t = none →
        Q (.ref t) (upd (upd (upd G l (.lst ((ns.map V.int).set p (.int X)))) l (.lst (((ns.map V.int).set p (.int X)).set p2 (.int Y)))) t (.tup (((ns.map V.int).set p (.int X)).set p2 (.int Y)))) := by
      rintro X Y rfl rfl G sG l nl gl' t nt
      refine q t _ ?_ ?_
      · intro c o hc
        have h1 := sG c o hc
        have ncl := ne_of_none hc nl
        have h3 : (upd (upd G l (.lst ((ns.map V.int).set p (.int X)))) l (.lst (((ns.map V.int).set p (.int X)).set p2 (.int (ns.getD p 0 + ns.getD p2 0 - X))))) c = some o := by
          rw [upd_ne ncl, upd_ne ncl]; exact h1
        rw [upd_ne (ne_of_none h3 nt)]
        exact h3
      · rw [upd_same, hL, map_set, map_set]
    refine ⟨.ref a, rfl, a, _, rfl, .inr hS, fun l nl => ⟨_, _, rfl, ?_⟩⟩
    have s1 : Same H (upd H l (.lst (ns.map V.int))) := same_upd nl
    have g1 : upd H l (.lst (ns.map V.int)) l = some (.lst (ns.map V.int)) := upd_same
    generalize upd H l (HO.lst (ns.map V.int)) = H1 at s1 g1 ⊢
    have ip : ixN (ns.map V.int).length (p : Int) = some p := ixN_nat (by rw [List.length_map]; exact ok.hp)
    have iq : ∀ X, ixN ((ns.map V.int).set p X).length (p2 : Int) = some p2 := fun X => ixN_nat (by rw [List.length_set, List.length_map]; exact ok.hq)
    refine ⟨_, rfl, (x2 : Int), 0, rfl, rfl, _, rfl, ite2 (fun h0 => ?_) (fun h0 => ?_)⟩
    · have h0' : 0 < x2 := by have := of_decide_eq_true h0; omega
      refine ⟨_, rfl, _, rfl, _, _, rfl, rfl, _, rfl, by show 2 ≤ sizeLine; decide, fun tp ntp => ?_⟩
      have s2 : Same H1 (upd H1 tp (.tup [.int (ns.getD p 0 + ns.getD p2 0 - x2), .int x2])) := same_upd ntp
      have e2 : upd H1 tp (.tup [.int (ns.getD p 0 + ns.getD p2 0 - x2), .int x2]) tp = some (.tup [.int (ns.getD p 0 + ns.getD p2 0 - x2), .int x2]) := upd_same
      generalize upd H1 tp (HO.tup [.int (ns.getD p 0 + ns.getD p2 0 - x2), .int x2]) = H2 at s2 e2 ⊢
      refine ⟨tp, _, rfl, SqT.of e2, rfl, _, _, rfl, _, rfl, _, rfl, l, _, (p : Int), p, rfl, rfl, s2 _ _ g1, ip, _, _, rfl, _, rfl, _, rfl, l, _, (p2 : Int), p2, rfl, rfl, upd_same, iq _, rfl, ?_⟩
      refine ⟨_, rfl, l, _, rfl, .inl ⟨SqL.of upd_same, fun t nt => ?_⟩⟩
      exact fin _ _ (by omega) (by omega) H2 (s1.trans s2) l nl (s2 _ _ g1) t nt
    · have h0' : x2 = 0 := by
        have : ¬ (x2 : Int) > 0 := fun z => h0 (decide_eq_true z)
        omega
      refine ⟨_, rfl, by show 2 ≤ sizeLine; decide, fun tp ntp => ?_⟩
      have s2 : Same H1 (upd H1 tp (.tup [.int 0, .int (ns.getD p 0 + ns.getD p2 0)])) := same_upd ntp
      have e2 : upd H1 tp (.tup [.int 0, .int (ns.getD p 0 + ns.getD p2 0)]) tp = some (.tup [.int 0, .int (ns.getD p 0 + ns.getD p2 0)]) := upd_same
      generalize upd H1 tp (HO.tup [.int 0, .int (ns.getD p 0 + ns.getD p2 0)]) = H2 at s2 e2 ⊢
      refine ⟨tp, _, rfl, SqT.of e2, rfl, _, _, rfl, _, rfl, _, rfl, l, _, (p : Int), p, rfl, rfl, s2 _ _ g1, ip, _, _, rfl, _, rfl, _, rfl, l, _, (p2 : Int), p2, rfl, rfl, upd_same, iq _, rfl, ?_⟩
      refine ⟨_, rfl, l, _, rfl, .inl ⟨SqL.of upd_same, fun t nt => ?_⟩⟩
      exact fin _ _ (by omega) (by omega) H2 (s1.trans s2) l nl (s2 _ _ g1) t nt
end
end K06

namespace K06
open PySem PySem.Spec PyProof.Rows L2 MG
section
variable {P : Program} {w : World} {K : PySem.W.Frag} {mg : Str → Option Value} {base : Heap}
def spTwo : Sp := fun vs H Q _ => ∃ b n, vs = [.ref b] ∧ Box H b n ∧ n ≤ 900000 ∧ ∀ l H' (x y : Int), H l = none → 1 ≤ x → x < 2 ^ 110 → 1 ≤ y → y < 2 ^ 110 → Box H' b (n + 10) → SX b H H' → H' l = some (.lst [.int x, .int y]) → Q (.ref l) H'
theorem ok_two {f fT fOf : Addr} {fd fdT fdOf : FuncData} {k : Nat} (F : Fun K "_law_two" "_law_two" sTwo f fd)
    (FT : Fun K "_law_take" "_law_take" sTake fT fdT) (bT : Binds K fdT ["_law_box_here", "_law_many"] []) (gT : mg "_law_take" = some (.ref fT))
    (FOf : Fun K "_law_of" "_law_of" sOf fOf fdOf) (bOf : Binds K fdOf ["_law_box_here", "_law_some"] []) (gOf : mg "_law_of" = some (.ref fOf)) (ml : mg "len" = none) :
    FnOk P w K mg base CX0 (k + 3) f fd ["_law_box_here"] spTwo := by
  have GT : FnOk P w K mg base CX0 (k + 1) fT fdT ["_law_box_here", "_law_many"] spTake := ok_take FT
  have GOf : FnOk P w K mg base CX0 (k + 2) fOf fdOf ["_law_box_here", "_law_some"] spOf := ok_of FOf FT bT gT ml
  refine F.ok scTwo (fun vs H Q E h => ?_) (fun cdv A outer s H vs Q E hr h => ?_)
  · obtain ⟨b, n, rfl, _⟩ := h
    rfl
  · obtain ⟨b, n, rfl, hB, hn, q⟩ := h
    have hr1 := hr.mono (show k + 1 ≤ k + 2 by omega)
    have hr2 := hr
    refine ⟨_, (pss_cons (ps_set (i := 1) scTwo.nd rfl (.inl rfl) (pe_call GT hr1 (by rfl) gT FT.kp bT .nil pass0 (pa_cons (pv 0) (pa_cons pe_int pa_nil))))
        (pss_cons (ps_if (pt_cmpR op_eq (pv 1) pe_int (nomark _)) (pss_one (ps_ret (pe_lst (pa_cons (pe_op op_add pe_int (pe_call GT hr1 (by rfl) gT FT.kp bT .nil pass0 (pa_cons (pv 0) (pa_cons (pe_op op_pow pe_int pe_int) pa_nil)))) (pa_cons (pe_call GOf hr2 (by rfl) gOf FOf.kp bOf .nil pass0 (pa_cons (pv 0) (pa_cons (pe_lst (pa_cons pe_int (pa_cons pe_int (pa_cons pe_int (pa_cons (pe_op op_add pe_int (pe_call GT hr1 (by rfl) gT FT.kp bT .nil pass0 (pa_cons (pv 0) (pa_cons pe_int pa_nil)))) pa_nil))))) pa_nil))) pa_nil))))) pss_nil)
        (pss_cons (ps_par (i := 2) (j := 3) rfl scTwo.nd rfl rfl (by decide) rfl rfl (pa_cons (pe_call GOf hr2 (by rfl) gOf FOf.kp bOf .nil pass0 (pa_cons (pv 0) (pa_cons (pe_lst (pa_cons pe_int (pa_cons pe_int (pa_cons pe_int (pa_cons (pe_op op_pow pe_int pe_int) (pa_cons (pe_op op_pow pe_int pe_int) (pa_cons (pe_op op_mul (pe_op op_pow pe_int pe_int) (pe_op op_pow pe_int pe_int)) pa_nil))))))) pa_nil))) (pa_cons (pe_op op_add pe_int (pe_call GT hr1 (by rfl) gT FT.kp bT .nil pass0 (pa_cons (pv 0) (pa_cons pe_int pa_nil)))) pa_nil)) (by rfl))
        (pss_cons (ps_if (pt_cmpR op_eq (pv 1) pe_int (nomark _)) (pss_one (ps_ret (pe_lst (pa_cons (pe_op op_mul (pv 3) (pv 2)) (pa_cons (pe_op op_mul (pv 3) (pv 2)) pa_nil))))) pss_nil)
        (pss_cons (ps_if (pt_cmpR op_eq (pv 1) pe_int (nomark _)) (pss_cons (ps_set (i := 4) scTwo.nd rfl (.inl rfl) (pe_op op_add pe_int (pe_call GT hr1 (by rfl) gT FT.kp bT .nil pass0 (pa_cons (pv 0) (pa_cons (pe_op op_sub (pv 2) pe_int) pa_nil)))))
        (pss_one (ps_ret (pe_lst (pa_cons (pe_op op_mul (pv 3) (pv 4)) (pa_cons (pe_op op_mul (pv 3) (pe_op op_sub (pv 2) (pv 4))) pa_nil)))))) pss_nil)
        (pss_one (ps_ret (pe_lst (pa_cons (pe_op op_add pe_int (pe_call GT hr1 (by rfl) gT FT.kp bT .nil pass0 (pa_cons (pv 0) (pa_cons (pe_op op_pow pe_int pe_int) pa_nil)))) (pa_cons (pe_op op_add pe_int (pe_call GT hr1 (by rfl) gT FT.kp bT .nil pass0 (pa_cons (pv 0) (pa_cons (pe_op op_pow pe_int pe_int) pa_nil)))) pa_nil)))))))))), ?_⟩
    have cpow : ∀ {x y : Int}, 0 ≤ y → y ≤ 64 → 0 ≤ x → x ≤ 10 → CPow x y := fun h1 h2 h3 h4 => ⟨h1, by omega, by omega⟩
    refine ⟨.ref b, rfl, b, 4, n, rfl, hB, by omega, by decide, by decide, fun wy H1 w0 w1 hB1 k1 => ?_⟩
    have x1 : SX b H H1 := .of_eq k1
    refine ⟨_, rfl, rfl, _, rfl, ite2 (fun _ => ?_) (fun _ => ?_)⟩
    · refine ⟨.ref b, rfl, 10, 28, rfl, rfl, cpow (by decide) (by decide) (by decide) (by decide), b, 10 ^ 28, n + 1, rfl, hB1, by omega, by decide, by decide, fun r2 H2 r20 r21 hB2 k2 => ⟨1, r2, rfl, rfl, ?_⟩⟩
      refine ⟨.ref b, rfl, .ref b, rfl, b, 1000, n + 1 + 1, rfl, hB2, by omega, by decide, by decide, fun r3 H3 r30 r31 hB3 k3 => ⟨1, r3, rfl, rfl, by show 4 ≤ sizeLine; decide, fun l nl => ?_⟩⟩
      obtain ⟨o3, z3⟩ := hB3.get
      refine ⟨b, l, n + 1 + 1 + 1, _, rfl, hB3.new nl, by omega, upd_same, ne_of_none z3 nl, by show 1 ≤ 4; decide, by show 4 ≤ 1000; decide, fun sc H4 hsc hB4 k4 => ?_⟩
      obtain ⟨y, rfl, y1, y2⟩ : ∃ v : Int, sc = .int v ∧ 1 ≤ v ∧ v ≤ 1000 := by
        simp only [List.mem_cons, List.not_mem_nil, or_false] at hsc
        rcases hsc with h | h | h | h <;> exact ⟨_, h, by omega, by omega⟩
      have x4 : SX b H H4 := (((x1.trans (.of_eq k2)).trans (.of_eq k3)).new nl).trans (.of_eq k4)
      refine ⟨by show 2 ≤ sizeLine; decide, fun l2 nl2 => ?_⟩
      exact q l2 _ (1 + r2) y (x4.free hB4 nl2) (by omega) (by omega) y1 (by omega) ((hB4.new nl2).le (by omega)) (x4.new nl2) upd_same
    refine ⟨.ref b, rfl, 2, 30, rfl, rfl, cpow (by decide) (by decide) (by decide) (by decide), 2, 61, rfl, rfl, cpow (by decide) (by decide) (by decide) (by decide), 2, 40, rfl, rfl, cpow (by decide) (by decide) (by decide) (by decide), 2, 40, rfl, rfl, cpow (by decide) (by decide) (by decide) (by decide), _, _, rfl, rfl, .inl ⟨by decide, by decide⟩, by show 6 ≤ sizeLine; decide, fun l nl => ?_⟩
    obtain ⟨o1, z1⟩ := hB1.get
    refine ⟨b, l, n + 1, _, rfl, hB1.new nl, by omega, upd_same, ne_of_none z1 nl, by show 1 ≤ 6; decide, by show 6 ≤ 1000; decide, fun pw H2 hpw hB2 k2 => ?_⟩
    obtain ⟨po, rfl, po1, po2⟩ : ∃ v : Int, pw = .int v ∧ 2 ≤ v ∧ v ≤ 2 ^ 80 := by
      simp only [List.mem_cons, List.not_mem_nil, or_false] at hpw
      rcases hpw with h | h | h | h | h | h <;> exact ⟨_, h, by decide, by decide⟩
    have x2 : SX b H H2 := (x1.new nl).trans (.of_eq k2)
    refine ⟨.ref b, rfl, b, 1000, n + 1 + 1, rfl, hB2, by omega, by decide, by decide, fun r3 H3 r30 r31 hB3 k3 => ⟨1, r3, rfl, rfl, _, _, rfl, ?_⟩⟩
    have x3 : SX b H H3 := x2.trans (.of_eq k3)
    have sc0 : (-(2 ^ 64) : Int) < 1 + r3 ∧ 1 + r3 < 2 ^ 64 := ⟨by omega, by omega⟩
    have mulb : ∀ v : Int, 1 ≤ v → v ≤ 2 ^ 80 → 1 ≤ (1 + r3) * v ∧ (1 + r3) * v < 2 ^ 110 := fun v h1 h2 => by
      have u1 : 0 < (1 + r3) * v := Int.mul_pos (by omega) (by omega)
      have u2 : (1 + r3) * v ≤ 1000 * v := Int.mul_le_mul_of_nonneg_right (by omega) (by omega)
      omega
    refine ⟨_, rfl, rfl, _, rfl, ite2 (fun _ => ?_) (fun _ => ?_)⟩
    · refine ⟨_, rfl, _, rfl, 1 + r3, po, rfl, rfl, .inl sc0, _, rfl, _, rfl, 1 + r3, po, rfl, rfl, .inl sc0, by show 2 ≤ sizeLine; decide, fun l2 nl2 => ?_⟩
      have mb := mulb po (by omega) po2
      exact q l2 _ ((1 + r3) * po) ((1 + r3) * po) (x3.free hB3 nl2) mb.1 mb.2 mb.1 mb.2 ((hB3.new nl2).le (by omega)) (x3.new nl2) upd_same
    refine ⟨_, rfl, rfl, _, rfl, ite2 (fun _ => ?_) (fun _ => ?_)⟩
    · refine ⟨.ref b, rfl, _, rfl, po, 1, rfl, rfl, b, po - 1, n + 1 + 1 + 1, rfl, hB3, by omega, by omega, by omega, fun r4 H4 r40 r41 hB4 k4 => ⟨1, r4, rfl, rfl, ?_⟩⟩
      have x4 : SX b H H4 := x3.trans (.of_eq k4)
      refine ⟨_, rfl, _, rfl, 1 + r3, 1 + r4, rfl, rfl, .inl sc0, _, rfl, _, rfl, _, rfl, po, 1 + r4, rfl, rfl, 1 + r3, _, rfl, rfl, .inl sc0, by show 2 ≤ sizeLine; decide, fun l2 nl2 => ?_⟩
      have m1 := mulb (1 + r4) (by omega) (by omega)
      have m2 := mulb (po - (1 + r4)) (by omega) (by omega)
      exact q l2 _ ((1 + r3) * (1 + r4)) ((1 + r3) * (po - (1 + r4))) (x4.free hB4 nl2) m1.1 m1.2 m2.1 m2.2 ((hB4.new nl2).le (by omega)) (x4.new nl2) upd_same
    · refine ⟨.ref b, rfl, 10, 27, rfl, rfl, cpow (by decide) (by decide) (by decide) (by decide), b, 10 ^ 27, n + 1 + 1 + 1, rfl, hB3, by omega, by decide, by decide, fun r4 H4 r40 r41 hB4 k4 => ⟨1, r4, rfl, rfl, ?_⟩⟩
      refine ⟨.ref b, rfl, 10, 27, rfl, rfl, cpow (by decide) (by decide) (by decide) (by decide), b, 10 ^ 27, n + 1 + 1 + 1 + 1, rfl, hB4, by omega, by decide, by decide, fun r5 H5 r50 r51 hB5 k5 => ⟨1, r5, rfl, rfl, by show 2 ≤ sizeLine; decide, fun l2 nl2 => ?_⟩⟩
      have x5 : SX b H H5 := (x3.trans (.of_eq k4)).trans (.of_eq k5)
      exact q l2 _ (1 + r4) (1 + r5) (x5.free hB5 nl2) (by omega) (by omega) (by omega) (by omega) ((hB5.new nl2).le (by omega)) (x5.new nl2) upd_same
end
end K06

namespace K06
open PySem PySem.Spec PyProof.Rows L2 MG
abbrev nLine : List Str := ["_law_box_here", "_law_two_here", "_law_rest", "_law_here", "_law_spots", "_law_left", "_law_made", "_law_amount", "_law_spot", "_law_turn"]
theorem scLine : FnScope ["_law_box_here", "_law_two_here", "_law_rest", "_law_here", "_law_spots", "_law_left", "_law_made", "_law_amount", "_law_spot", "_law_turn"] ["_law_box_here"] (defScope sLine) := ⟨rfl, rfl, rfl, by decide +kernel, rfl, by decide +kernel, by decide +kernel⟩
abbrev iN (l : List Nat) : List Int := l.map fun (i : Nat) => (i : Int)
theorem rep_flat (k : Nat) (v : Int) : (List.replicate k [V.int v]).flatten = (List.replicate k v).map V.int := by
  induction k with
  | zero => rfl
  | succ m ih => rw [List.replicate_succ, List.flatten_cons, ih, List.replicate_succ]; rfl
theorem rg_eq (n : Nat) : rgV 0 (n : Int) = (iN (List.range n)).map V.int := by
  unfold rgV iN
  rw [List.map_map, show ((n : Int) - 0).toNat = n by omega]
  refine List.map_congr_left fun i _ => ?_
  show V.int (0 + (i : Int)) = V.int (i : Int)
  rw [Int.zero_add]
section
variable {P : Program} {w : World} {K : PySem.W.Frag} {mg : Str → Option Value} {base : Heap}
def spLine : Sp := fun vs H Q _ => ∃ b n, vs = [.ref b] ∧ Box H b n ∧ n ≤ 800000 ∧ ∀ t a H' (ns : List Int) (p q : Nat), H' t = some (.tup [.ref a, .int p, .int q]) → H' a = some (.tup (ns.map V.int)) → RunOk ns p q → (∀ v ∈ ns, 0 ≤ v ∧ v < 2 ^ 110) → ns.length ≤ 12 → a ≠ b → Box H' b (n + 100) → SX b H H' → Q (.ref t) H'
theorem ok_line {f fT f2 : Addr} {fd fdT fd2 : FuncData} {k : Nat} (F : Fun K "_law_line" "_law_line" sLine f fd)
    (FT : Fun K "_law_take" "_law_take" sTake fT fdT) (bT : Binds K fdT ["_law_box_here", "_law_many"] []) (gT : mg "_law_take" = some (.ref fT))
    (F2 : Fun K "_law_two" "_law_two" sTwo f2 fd2) (b2 : Binds K fd2 ["_law_box_here"] []) (g2 : mg "_law_two" = some (.ref f2)) (G2 : FnOk P w K mg base CX0 (k + 3) f2 fd2 ["_law_box_here"] spTwo)
    (ml : mg "len" = none) (mL : mg "list" = none) (mT : mg "tuple" = none) (mR : mg "range" = none) (mz : mg "zip" = none) :
    FnOk P w K mg base CX0 (k + 4) f fd ["_law_box_here"] spLine := by
  have GT : FnOk P w K mg base CX0 (k + 1) fT fdT ["_law_box_here", "_law_many"] spTake := ok_take FT
  refine F.ok scLine (fun vs H Q E h => ?_) (fun cdv A outer s H vs Q E hr h => ?_)
  · obtain ⟨b, n, rfl, _⟩ := h
    rfl
  · obtain ⟨b, n, rfl, hB, hn, q⟩ := h
    have hr1 := hr.mono (show k + 1 ≤ k + 3 by omega)
    have hr3 := hr
    refine ⟨_, (pss_cons (ps_set (i := 1) scLine.nd rfl (.inl rfl) (pe_call G2 hr3 (by rfl) g2 F2.kp b2 .nil pass0 (pa_cons (pv 0) pa_nil)))
        (pss_cons (ps_set (i := 2) scLine.nd rfl (.inl rfl) (pe_op op_cat (pe_lc (own := [("_law_turn", 9)]) (g := gName 9) (tt := tYes) rfl scLine.nd (pi_range1 rfl mR (pa_cons (pe_call GT hr1 (by rfl) gT FT.kp bT .nil pass0 (pa_cons (pv 0) (pa_cons pe_int pa_nil))) pa_nil)) (blkOk_by (N := nLine) (sc := defScope sLine) (by decide +kernel)) (fun _ _ _ _ _ => pg_name (i := 9) scLine.nd rfl (Or.inl rfl)) (fun _ _ _ _ _ => pts_nil) (fun _ _ _ _ _ => (pe_op op_add pe_int (pe_call GT hr1 (by rfl) gT FT.kp bT .nil pass0 (pa_cons (pv 0) (pa_cons (pe_op op_pow pe_int pe_int) pa_nil)))))) (pe_op op_rep (pe_lst (pa_cons pe_int pa_nil)) (pe_call GT hr1 (by rfl) gT FT.kp bT .nil pass0 (pa_cons (pv 0) (pa_cons pe_int pa_nil))))))
        (pss_cons (ps_set (i := 3) scLine.nd rfl (.inl rfl) (pe_op op_cat (pv 1) (pv 2)))
        (pss_cons (ps_par (i := 4) (j := 5) rfl scLine.nd rfl rfl (by decide) rfl rfl (pa_cons (pe_lst pa_nil) (pa_cons (pe_listRg rfl (by rfl) mL (prg_1 (by rfl) mR (pe_callB call_len_seq (by rfl) ml PySem.boot_len (pa_cons (pv 3) pa_nil)))) pa_nil)) (by rfl))
        (pss_cons (ps_while PassesOwn.never (pt_cmpR (op_neD hr.units) (pv 5) (pe_lst pa_nil) (nomark _)) (pss_one (ps_expr (pe_bm PySem.F.plainAttrs_list PySem.F.slot_list_append PySem.F.type_list_append mt_append (pv 4) (pa_cons (pe_bm PySem.F.plainAttrs_list PySem.F.slot_list_pop PySem.F.type_list_pop mt_popAt (pv 5) (pa_cons (pe_call GT hr1 (by rfl) gT FT.kp bT .nil pass0 (pa_cons (pv 0) (pa_cons (pe_callB call_len_seq (by rfl) ml PySem.boot_len (pa_cons (pv 5) pa_nil)) pa_nil))) pa_nil)) pa_nil)))))
        (pss_cons (ps_set (i := 6) scLine.nd rfl (.inl rfl) (pe_op op_rep (pe_lst (pa_cons pe_int pa_nil)) (pe_callB call_len_seq (by rfl) ml PySem.boot_len (pa_cons (pv 3) pa_nil))))
        (pss_cons (ps_for PassesOwn.never rfl (pi_zip (by rfl) mz (pa_cons (pv 3) (pa_cons (pv 4) pa_nil))) (pg_tup rfl (pgs_cons (pg_name (i := 7) scLine.nd rfl (.inl rfl)) (pgs_cons (pg_name (i := 8) scLine.nd rfl (.inl rfl)) pgs_nil))) (pss_one (ps_asg (pv 7) (pg_sub (pv 6) (pv 8) set_list))))
        (pss_one (ps_ret (pe_tup (pa_cons (pe_callTy call_tuple_of (by rfl) mT (by decide +kernel) (pa_cons (pv 6) pa_nil)) (pa_cons (pe_ix ix_list (pv 4) pe_int (fun _ _ => rfl)) (pa_cons (pe_ix ix_list (pv 4) pe_int (fun _ _ => rfl)) pa_nil))))))))))))), ?_⟩
    have cpow : ∀ {x y : Int}, 0 ≤ y → y ≤ 64 → 0 ≤ x → x ≤ 10 → CPow x y := fun h1 h2 h3 h4 => ⟨h1, by omega, by omega⟩
    refine ⟨.ref b, rfl, b, n, rfl, hB, by omega, fun l1 H1 x y nl1 x1 x2 y1 y2 hB1 X1 e1 => ?_⟩
    have nbl1 : l1 ≠ b := by
      obtain ⟨o, z⟩ := hB.get
      exact (ne_of_none z nl1).symm
    -- the rest
    refine ⟨.ref b, rfl, b, 5, n + 10, rfl, hB1, by omega, by decide, by decide, fun m H2 m0 m1 hB2 k2 => ⟨m, rfl, by omega, by omega, fun D nD => ?_⟩⟩
    have X2 : SX b H H2 := X1.trans (.of_eq k2)
    have e12 : H2 l1 = some (.lst [.int x, .int y]) := by rw [k2 l1 nbl1]; exact e1
    obtain ⟨o2, z2⟩ := hB2.get
    have nDb : b ≠ D := ne_of_none z2 nD
    have nDl1 : l1 ≠ D := ne_of_none e12 nD
    have fD : H D = none := X2.free hB2 nD
    refine lc_range (lo := 0) (n := m.toNat) (fun i H' => ∃ rs : List Int, rs.length = i ∧ (∀ v ∈ rs, 0 ≤ v ∧ v < 2 ^ 110) ∧ SX b H H' ∧ Box H' b (n + 11 + i) ∧ H' l1 = some (.lst [.int x, .int y]) ∧ H' D = some (.lst (rs.map V.int))) ?_ ?_ ?_
    · exact ⟨[], rfl, fun v hv => absurd hv List.not_mem_nil, X2.new nD, hB2.new nD, by rw [upd_ne nDl1]; exact e12, upd_same⟩
    · rintro i H' hi ⟨rs, hrs, hv, X', hB', e1', eD⟩
      refine ⟨rfl, .ref b, rfl, 10, 27, rfl, rfl, cpow (by decide) (by decide) (by decide) (by decide), b, 10 ^ 27, n + 11 + i, rfl, hB', by omega, by decide, by decide, fun r H'' r0 r1 hB'' k'' => ⟨1, r, rfl, rfl, ?_⟩⟩
      refine ⟨_, by rw [k'' D nDb.symm]; exact eD, by rw [List.length_map, hrs]; exact small1000 (by omega), rs ++ [1 + r], by rw [List.length_append, hrs]; rfl, ?_, (X'.trans (.of_eq k'')).set fD, hB''.set nDb, ?_, ?_⟩
      · intro v hv'
        rcases List.mem_append.mp hv' with h | h
        · exact hv v h
        · rw [List.mem_singleton.mp h]; omega
      · rw [upd_ne nDl1, k'' l1 nbl1]; exact e1'
      · rw [upd_same, List.map_append]; rfl
    rintro H3 ⟨rs, hrs, hv, X3, hB3, e13, eD3⟩
    refine ⟨by show 1 ≤ sizeLine; decide, fun l2 nl2 => ?_⟩
    have X4 := X3.new (o := .lst [.int 0]) nl2
    have hB4 := hB3.new (o := .lst [.int 0]) nl2
    have e14 := same_upd nl2 (o := .lst [.int 0]) _ _ e13
    have eD4 := same_upd nl2 (o := .lst [.int 0]) _ _ eD3
    have e24 : upd H3 l2 (.lst [.int 0]) l2 = some (.lst [.int 0]) := upd_same
    generalize upd H3 l2 (HO.lst [.int 0]) = H4 at X4 hB4 e14 eD4 e24 ⊢
    refine ⟨.ref b, rfl, b, 2, n + 11 + m.toNat, rfl, hB4, by omega, by decide, by decide, fun z0 H5 z00 z01 hB5 k5 => ?_⟩
    have nb2 : l2 ≠ b := by
      obtain ⟨o, z⟩ := hB3.get
      exact (ne_of_none z nl2).symm
    have X5 : SX b H H5 := X4.trans (.of_eq k5)
    have e15 : H5 l1 = some (.lst [.int x, .int y]) := by rw [k5 l1 nbl1]; exact e14
    have eD5 : H5 D = some (.lst (rs.map V.int)) := by rw [k5 D nDb.symm]; exact eD4
    have e25 : H5 l2 = some (.lst [.int 0]) := by rw [k5 l2 nb2]; exact e24
    refine ⟨l2, z0, [.int 0], rfl, rfl, e25, by omega, by omega, by show 1 * z0.toNat ≤ sizeLine; rw [sizeLine_eq]; omega, fun l3 nl3 => ?_⟩
    rw [rep_flat]
    have s6 := same_upd nl3 (o := .lst ((List.replicate z0.toNat 0).map V.int))
    have e36 : upd H5 l3 (.lst ((List.replicate z0.toNat (0 : Int)).map V.int)) l3 = some (.lst ((List.replicate z0.toNat (0 : Int)).map V.int)) := upd_same
    have X6 := X5.new (o := .lst ((List.replicate z0.toNat 0).map V.int)) nl3
    have hB6 := hB5.new (o := .lst ((List.replicate z0.toNat 0).map V.int)) nl3
    generalize upd H5 l3 (HO.lst ((List.replicate z0.toNat (0 : Int)).map V.int)) = H6 at s6 e36 X6 hB6 ⊢
    refine ⟨D, l3, _, _, rfl, rfl, s6 _ _ eD5, e36, by rw [List.length_map, List.length_map, List.length_replicate, hrs, sizeLine_eq]; omega, fun l4 nl4 => ?_⟩
    rw [← List.map_append]
    have s7 := same_upd nl4 (o := .lst ((rs ++ List.replicate z0.toNat 0).map V.int))
    have e47 : upd H6 l4 (.lst ((rs ++ List.replicate z0.toNat 0).map V.int)) l4 = some (.lst ((rs ++ List.replicate z0.toNat 0).map V.int)) := upd_same
    have X7 := X6.new (o := .lst ((rs ++ List.replicate z0.toNat 0).map V.int)) nl4
    have hB7 := hB6.new (o := .lst ((rs ++ List.replicate z0.toNat 0).map V.int)) nl4
    generalize upd H6 l4 (HO.lst ((rs ++ List.replicate z0.toNat 0).map V.int)) = H7 at s7 e47 X7 hB7 ⊢
    refine ⟨_, rfl, _, rfl, l1, l4, _, _, rfl, rfl, s7 _ _ (s6 _ _ e15), e47, by rw [List.length_map, List.length_append, List.length_replicate, hrs]; show 2 + _ ≤ sizeLine; rw [sizeLine_eq]; omega, fun lh nlh => ?_⟩
    have hvals : ∀ v ∈ x :: y :: (rs ++ List.replicate z0.toNat 0), 0 ≤ v ∧ v < 2 ^ 110 := fun v hv' => by
      rcases List.mem_cons.mp hv' with rfl | hv'
      · omega
      · rcases List.mem_cons.mp hv' with rfl | hv'
        · omega
        · rcases List.mem_append.mp hv' with h | h
          · exact hv v h
          · rw [List.eq_of_mem_replicate h]; omega
    have hlen : (x :: y :: (rs ++ List.replicate z0.toNat 0)).length ≤ 9 := by
      rw [List.length_cons, List.length_cons, List.length_append, List.length_replicate, hrs]; omega
    have emap : [V.int x, V.int y] ++ (rs ++ List.replicate z0.toNat 0).map V.int = (x :: y :: (rs ++ List.replicate z0.toNat 0)).map V.int := rfl
    rw [emap]
    generalize hhs : x :: y :: (rs ++ List.replicate z0.toNat 0) = hs at hvals hlen
    have h0 : hs[0]? = some x := by rw [← hhs]; rfl
    have h1 : hs[1]? = some y := by rw [← hhs]; rfl
    have X8 := X7.new (o := .lst (hs.map V.int)) nlh
    have hB8 := hB7.new (o := .lst (hs.map V.int)) nlh
    have eh8 : upd H7 lh (.lst (hs.map V.int)) lh = some (.lst (hs.map V.int)) := upd_same
    have flh : H lh = none := X7.free hB7 nlh
    generalize upd H7 lh (HO.lst (hs.map V.int)) = H8 at X8 hB8 eh8 ⊢
    refine ⟨by show 0 ≤ sizeLine; decide, fun ls nls => ?_⟩
    have X9 := X8.new (o := .lst []) nls
    have hB9 := hB8.new (o := .lst []) nls
    have eh9 := same_upd nls (o := .lst []) _ _ eh8
    have es9 : upd H8 ls (.lst []) ls = some (.lst []) := upd_same
    have fls : H ls = none := X8.free hB8 nls
    generalize upd H8 ls (HO.lst []) = H9 at X9 hB9 eh9 es9 ⊢
    refine ⟨.ref lh, rfl, lh, _, rfl, .inl (SqL.of eh9), (hs.length : Int), by rw [List.length_map], RgOk.of_le (by decide) (by omega) (by decide) (by omega), fun ll nll => ⟨_, _, rfl, ?_⟩⟩
    rw [rg_eq]
    have X10 := X9.new (o := .lst ((iN (List.range hs.length)).map V.int)) nll
    have hB10 := hB9.new (o := .lst ((iN (List.range hs.length)).map V.int)) nll
    have s10 := same_upd nll (o := .lst ((iN (List.range hs.length)).map V.int))
    have el10 : upd H9 ll (.lst ((iN (List.range hs.length)).map V.int)) ll = some (.lst ((iN (List.range hs.length)).map V.int)) := upd_same
    have fll : H ll = none := X9.free hB9 nll
    have nls_ll : ls ≠ ll := ne_of_none es9 nll
    have nlh_ll : lh ≠ ll := ne_of_none eh9 nll
    have nlh_ls : lh ≠ ls := ne_of_none eh8 nls
    generalize upd H9 ll (HO.lst ((iN (List.range hs.length)).map V.int)) = H10 at X10 hB10 s10 el10 ⊢
    obtain ⟨bo, bz⟩ := hB.get
    have nb_lh : b ≠ lh := ne_of_none bz flh
    have nb_ls : b ≠ ls := ne_of_none bz fls
    have nb_ll : b ≠ ll := ne_of_none bz fll
    refine while_by (fun σ H' => ∃ lf sp : List Nat, σ = [some (.ref b), some (.ref l1), some (.ref l4), some (.ref lh), some (.ref ls), some (.ref ll), none, none, none, none] ∧ (lf ++ sp).Perm (List.range hs.length) ∧ SX b H H' ∧ Box H' b (n + 20 + sp.length) ∧ H' lh = some (.lst (hs.map V.int)) ∧ H' ll = some (.lst ((iN lf).map V.int)) ∧ H' ls = some (.lst ((iN sp).map V.int)))
      (fun _ H' => match H' ll with | some (.lst xs) => xs.length | _ => 0) ⟨List.range hs.length, [], rfl, by rw [List.append_nil], X10, hB10.le (by show _ ≤ n + 20 + 0; omega), s10 _ _ eh9, el10, s10 _ _ es9⟩ ?_ ?_
    · rintro σ H' ⟨lf, sp, rfl, pm, x', hB', eh, el, es⟩
      have hlenp := pm.length_eq
      rw [List.length_append, List.length_range] at hlenp
      refine ⟨.ref ll, rfl, by show 0 ≤ sizeLine; decide, fun e ne => ?_⟩
      have se : Same H' (upd H' e (.lst [])) := same_upd ne
      have ge : upd H' e (.lst []) e = some (.lst []) := upd_same
      have xe : SX b H (upd H' e (.lst [])) := x'.new ne
      have hBe : Box (upd H' e (.lst [])) b (n + 20 + sp.length) := hB'.new ne
      generalize upd H' e (HO.lst []) = G at se ge xe hBe ⊢
      have ehG := se _ _ eh
      have elG := se _ _ el
      have esG := se _ _ es
      refine ⟨.list ((iN lf).map PyData.int), .list [], .lst (SqL.of elG) (dpInts _), .lst (SqL.of ge) .nil, shaped_ints _, rfl, _, rfl, ?_⟩
      cases lf with
      | cons i0 lr =>
        refine iteT ?_
        have hlg : ((iN (i0 :: lr)).map V.int).length = (i0 :: lr).length := by rw [List.length_map, List.length_map]
        refine ⟨.ref ls, rfl, .inl ⟨rfl, _, SqL.of esG⟩, .ref ll, rfl, .inl ⟨rfl, _, SqL.of elG⟩, .ref b, rfl, .ref ll, rfl, ll, _, rfl, .inl (SqL.of elG), ?_⟩
        rw [hlg]
        refine ⟨b, (((i0 :: lr).length : Nat) : Int), n + 20 + sp.length, rfl, hBe, by omega, by rw [List.length_cons]; omega, by omega, fun r H2' r0 r1 hB2' k2' => ?_⟩
        obtain ⟨j, rfl⟩ : ∃ j : Nat, r = (j : Int) := ⟨r.toNat, by omega⟩
        have hj : j < (i0 :: lr).length := by omega
        have el2 : H2' ll = some (.lst ((iN (i0 :: lr)).map V.int)) := by rw [k2' ll nb_ll.symm]; exact elG
        have es2 : H2' ls = some (.lst ((iN sp).map V.int)) := by rw [k2' ls nb_ls.symm]; exact esG
        have eh2 : H2' lh = some (.lst (hs.map V.int)) := by rw [k2' lh nb_lh.symm]; exact ehG
        have xx : SX b H H2' := xe.trans (.of_eq k2')
        have hix : seqIndex? (j : Int) ((iN (i0 :: lr)).map V.int).length = some j := by
          unfold seqIndex?
          rw [hlg, if_neg (show ¬ (j : Int) < 0 by omega)]
          show (if (decide (0 ≤ (j : Int)) && decide ((j : Int) < ((i0 :: lr).length : Nat))) = true then some (j : Int).toNat else none) = some j
          rw [decide_eq_true (show 0 ≤ (j : Int) by omega), decide_eq_true (show (j : Int) < ((i0 :: lr).length : Nat) by omega)]
          rfl
        have hgetj : ((iN (i0 :: lr)).map V.int)[j]? = some (.int ((i0 :: lr)[j] : Nat)) := by
          rw [List.getElem?_map, List.getElem?_map, List.getElem?_eq_getElem hj]; rfl
        refine ⟨ll, _, (j : Int), j, _, rfl, rfl, el2, by omega, by omega, hix, hgetj, ?_⟩
        refine ⟨ls, _, _, rfl, rfl, by rw [upd_ne nls_ll]; exact es2, by rw [List.length_map, List.length_map]; exact small1000 (by omega), ?_⟩
        refine ⟨⟨(i0 :: lr).eraseIdx j, sp ++ [(i0 :: lr)[j]], rfl, ?_, (xx.set fll).set fls, ?_, ?_, ?_, ?_⟩, ?_⟩
        · refine List.Perm.trans ?_ pm
          have p1 : ((i0 :: lr)[j] :: (i0 :: lr).eraseIdx j).Perm (i0 :: lr) := erase_perm _ j hj
          have p2 : ((i0 :: lr).eraseIdx j ++ (sp ++ [(i0 :: lr)[j]])).Perm ((i0 :: lr)[j] :: ((i0 :: lr).eraseIdx j ++ sp)) := by
            rw [← List.append_assoc]
            exact List.perm_append_comm
          refine p2.trans ?_
          rw [← List.cons_append]
          exact p1.append_right sp
        · rw [List.length_append]
          exact ((hB2'.set nb_ll).set nb_ls)
        · rw [upd_ne nlh_ls, upd_ne nlh_ll]; exact eh2
        · rw [upd_ne nls_ll.symm, upd_same, map_erase, map_erase]
        · rw [upd_same, show iN (sp ++ [(i0 :: lr)[j]]) = iN sp ++ [((i0 :: lr)[j] : Int)] from List.map_append .., List.map_append]; rfl
        · show (match upd (upd H2' ll _) ls _ ll with | some (.lst xs) => xs.length | _ => 0) < (match H' ll with | some (.lst xs) => xs.length | _ => 0)
          rw [upd_ne nls_ll.symm, upd_same, el]
          show (((iN (i0 :: lr)).map V.int).eraseIdx j).length < ((iN (i0 :: lr)).map V.int).length
          rw [List.length_eraseIdx_of_lt (by rw [hlg]; exact hj), hlg]
          omega
      | nil =>
        refine iteF ?_
        have pm' : sp.Perm (List.range hs.length) := pm
        have hsl : sp.length = hs.length := by rw [pm'.length_eq, List.length_range]
        have hnd : sp.Nodup := pm'.nodup_iff.mpr List.nodup_range
        have hmem : ∀ j ∈ sp, j < hs.length := fun j hj => List.mem_range.mp (pm'.mem_iff.mp hj)
        -- made
        refine ⟨by show 1 ≤ sizeLine; decide, fun m1' nm1 => ?_⟩
        have xA := xe.new (o := .lst [.int 0]) nm1
        have hBA := hBe.new (o := .lst [.int 0]) nm1
        have ehA := same_upd nm1 (o := .lst [.int 0]) _ _ ehG
        have esA := same_upd nm1 (o := .lst [.int 0]) _ _ esG
        have emA : upd G m1' (.lst [.int 0]) m1' = some (.lst [.int 0]) := upd_same
        generalize upd G m1' (HO.lst [.int 0]) = GA at xA hBA ehA esA emA ⊢
        refine ⟨.ref lh, rfl, lh, _, rfl, .inl (SqL.of ehA), ?_⟩
        rw [List.length_map]
        refine ⟨m1', (hs.length : Int), [.int 0], rfl, rfl, emA, by omega, by omega, by show 1 * (hs.length : Int).toNat ≤ sizeLine; rw [sizeLine_eq]; omega, fun md nmd => ?_⟩
        rw [rep_flat, Int.toNat_natCast]
        have xB := xA.new (o := .lst ((List.replicate hs.length 0).map V.int)) nmd
        have hBB := hBA.new (o := .lst ((List.replicate hs.length 0).map V.int)) nmd
        have ehB := same_upd nmd (o := .lst ((List.replicate hs.length 0).map V.int)) _ _ ehA
        have esB := same_upd nmd (o := .lst ((List.replicate hs.length 0).map V.int)) _ _ esA
        have emB : upd GA md (.lst ((List.replicate hs.length (0 : Int)).map V.int)) md = some (.lst ((List.replicate hs.length (0 : Int)).map V.int)) := upd_same
        have fmd : H md = none := xA.free hBA nmd
        have nb_md : b ≠ md := ne_of_none bz fmd
        have nlh_md : lh ≠ md := ne_of_none ehA nmd
        have nls_md : ls ≠ md := ne_of_none esA nmd
        generalize upd GA md (HO.lst ((List.replicate hs.length (0 : Int)).map V.int)) = GB at xB hBB ehB esB emB ⊢
        refine ⟨.ref lh, rfl, .ref ls, rfl, lh, ls, _, _, rfl, SqL.of ehB, SqL.of esB, ?_⟩
        refine RZ.for_zipL (K := K) (a := lh) (b := ls) (xs := hs.map V.int) (ys := (iN sp).map V.int) (by rw [List.length_map, List.length_map, List.length_map, hsl]) (fun i σ H' => ∃ y7 y8, ∃ mm : List Int, σ = [some (.ref b), some (.ref l1), some (.ref l4), some (.ref lh), some (.ref ls), some (.ref ll), some (.ref md), y7, y8, none] ∧ mm.length = hs.length ∧ (∀ v ∈ mm, 0 ≤ v ∧ v < 2 ^ 110) ∧ (∀ j s', j < i → sp[j]? = some s' → mm[s']? = hs[j]?) ∧ SX b H H' ∧ Box H' b (n + 20 + sp.length) ∧ H' lh = some (.lst (hs.map V.int)) ∧ H' ls = some (.lst ((iN sp).map V.int)) ∧ H' md = some (.lst (mm.map V.int))) ?_ ?_ ?_ ?_
        · refine ⟨none, none, List.replicate hs.length 0, rfl, List.length_replicate, fun v hv' => ?_, fun j s' hj => absurd hj (Nat.not_lt_zero _), xB, hBB, ehB, esB, emB⟩
          rw [List.eq_of_mem_replicate hv']; omega
        · rintro i σ H' ⟨_, _, _, _, _, _, _, _, _, e1', e2', _⟩
          exact ⟨SqL.of e1', SqL.of e2'⟩
        · rintro i xv yv T σ H' hx hy ⟨y7, y8, mm, rfl, hml, hmv, hmi, xC, hBC, e1', e2', e3'⟩ nT
          rw [List.getElem?_map] at hx
          obtain ⟨v, hv1, rfl⟩ := Option.map_eq_some_iff.mp hx
          rw [List.getElem?_map, List.getElem?_map] at hy
          obtain ⟨s', hs', rfl⟩ := Option.map_eq_some_iff.mp hy
          obtain ⟨sn, hsn, rfl⟩ := Option.map_eq_some_iff.mp hs'
          have hsn' : sn < hs.length := hmem sn (List.mem_of_getElem? hsn)
          have e3T : upd H' T (.tup [.int v, .int (sn : Int)]) md = some (.lst (mm.map V.int)) := same_upd nT _ _ e3'
          refine ⟨T, _, rfl, SqT.of upd_same, rfl, _, _, rfl, _, _, rfl, rfl, ?_⟩
          refine ⟨_, rfl, _, rfl, _, rfl, md, _, (sn : Int), sn, rfl, rfl, e3T, ixN_nat (by rw [List.length_map, hml]; exact hsn'), ?_⟩
          rw [map_set]
          refine ⟨_, _, mm.set sn v, rfl, by rw [List.length_set]; exact hml, ?_, ?_, ((xC.new nT).set fmd), ((hBC.new nT).set nb_md), ?_, ?_, upd_same⟩
          · intro u hu
            rcases List.mem_or_eq_of_mem_set hu with h | h
            · exact hmv u h
            · rw [h]; exact hvals v (List.mem_of_getElem? hv1)
          · intro j s2 hj hs2
            by_cases hji : j = i
            · subst hji
              rw [hsn] at hs2
              cases hs2
              rw [List.getElem?_set_self (by rw [hml]; exact hsn')]
              exact hv1.symm
            · have hne : sn ≠ s2 := fun z => by
                subst z
                exact hji ((List.getElem?_inj (List.getElem?_eq_some_iff.mp hs2).1 hnd).mp (hs2.trans hsn.symm))
              rw [List.getElem?_set_ne hne]
              exact hmi j s2 (by omega) hs2
          · rw [upd_ne nlh_md]; exact same_upd nT _ _ e1'
          · rw [upd_ne nls_md]; exact same_upd nT _ _ e2'
        · rintro σ H' ⟨y7, y8, mm, rfl, hml, hmv, hmi, xC, hBC, e1', e2', e3'⟩
          rw [List.length_map] at hmi
          have hl0 : 2 ≤ hs.length := (List.getElem?_eq_some_iff.mp h1).1
          obtain ⟨s0', hs0⟩ : ∃ v, sp[0]? = some v := ⟨_, List.getElem?_eq_getElem (by omega)⟩
          obtain ⟨s1', hs1⟩ : ∃ v, sp[1]? = some v := ⟨_, List.getElem?_eq_getElem (by omega)⟩
          have m0' := hmi 0 s0' (by omega) hs0
          have m1'' := hmi 1 s1' (by omega) hs1
          rw [h0] at m0'
          rw [h1] at m1''
          have ne01 : s0' ≠ s1' := fun z => by
            subst z
            have := (List.getElem?_inj (List.getElem?_eq_some_iff.mp hs0).1 hnd).mp (hs0.trans hs1.symm)
            omega
          have ok : RunOk mm s0' s1' := by
            refine ⟨by rw [hml]; exact hmem _ (List.mem_of_getElem? hs0), by rw [hml]; exact hmem _ (List.mem_of_getElem? hs1), ?_, ?_, ne01⟩
            · rw [List.getD_eq_getElem?_getD, m0']; show 0 < x; omega
            · rw [List.getD_eq_getElem?_getD, m1'']; show 0 < y; omega
          refine ⟨.ref md, rfl, md, _, rfl, .inl ⟨SqL.of e3', fun ta nta => ?_⟩⟩
          have e4 := same_upd nta (o := .tup (mm.map V.int)) _ _ e2'
          refine ⟨.ref ls, rfl, ls, _, 0, .int (s0' : Nat), rfl, rfl, SqL.of e4, atI_nat (j := 0) (by rw [List.getElem?_map, List.getElem?_map, hs0]; rfl), .ref ls, rfl, ls, _, 1, .int (s1' : Nat), rfl, rfl, SqL.of e4, atI_nat (j := 1) (by rw [List.getElem?_map, List.getElem?_map, hs1]; rfl), by show 3 ≤ sizeLine; decide, fun tt ntt => ?_⟩
          have nta_b : ta ≠ b := fun z => by
            obtain ⟨o, zz⟩ := hBC.get
            rw [z, zz] at nta
            cases nta
          have hs9 : sp.length ≤ 9 := by omega
          exact q tt ta _ mm s0' s1' upd_same (same_upd ntt _ _ upd_same) ok hmv (by omega) nta_b (((hBC.new nta).new ntt).le (by omega)) ((xC.new nta).new ntt)
    · rintro σ H' Q1 Q2 hq ⟨xx, e1', hz, h⟩
      refine ⟨xx, e1', hz, fun p np => ?_⟩
      obtain ⟨d, e, c1, c2, c3, c4, z, c5, c6⟩ := h p np
      exact ⟨d, e, c1, c2, c3, c4, z, c5, hq _ _ c6⟩
end
end K06

namespace K06
open PySem PySem.Spec PyProof.Rows L2 MG
theorem ddI {H : Hp} : ∀ L : List Int, DdAll H (L.map V.int) (L.map PyData.int)
  | [] => .nil
  | i :: L => .cons (.int i) (ddI L)
theorem shaped_tup (L : List Int) : SeqAt.shaped (.tuple (L.map PyData.int)) = true := by
  unfold SeqAt.shaped
  rw [PyData.canLay0, lay_ints, PyData.depth, depth_ints]
  rfl
def mayO (o : Option Nat) (m : Nat) : Bool :=
  match o with
  | none => true
  | some d => decide ((m : Int) ≤ (d : Int))
def dueD : Option Nat → PyData
  | none => .none
  | some d => .int d
theorem due_dd {H : Hp} (o : Option Nat) : Dd H (dueV o) (dueD o) := by
  cases o with
  | none => exact .non
  | some d => exact .int d
theorem due_show {o : Option Nat} (h : ∀ d, o = some d → d < 1000) : (dueD o).showable = true ∧ (dueD o).depth ≤ 60 ∧ (dueD o).shown.length ≤ sizeLine := by
  cases o with
  | none => exact ⟨rfl, by decide, by decide +kernel⟩
  | some d =>
    have hd := h d rfl
    obtain ⟨dd, h1, h2, h3, h4⟩ := Da.int (H := fun _ => none) (i := (d : Int)) (Nat.lt_trans (show (d : Int).natAbs < 2 ^ 10 by omega) (by decide))
    cases h1
    exact ⟨h2, by show 0 ≤ 60; decide, Nat.le_trans h4 (by decide)⟩
theorem bool_show (b : Bool) : (PyData.bool b).shown.length ≤ sizeLine := by cases b <;> decide +kernel
section
variable {ns : List Int} {p q : Nat} (ok : RunOk ns p q) (hv : ∀ v ∈ ns, 0 ≤ v ∧ v < 2 ^ 110)
include ok hv
theorem nat_p : ((ns.getD p 0).toNat : Int) = ns.getD p 0 := Int.toNat_of_nonneg (hv _ (mem_getD ok.hp)).1
theorem nat_q : ((ns.getD q 0).toNat : Int) = ns.getD q 0 := Int.toNat_of_nonneg (hv _ (mem_getD ok.hq)).1
theorem rest_lt (k : Nat) : 0 ≤ restI ns p q k ∧ restI ns p q k < ns.getD p 0 + ns.getD q 0 := by
  have h1 := nat_p ok hv
  have h2 := nat_q ok hv
  have p0 := ok.p0
  have q0 := ok.q0
  have hm : (ns.getD p 0).toNat * 2 ^ k % ((ns.getD p 0).toNat + (ns.getD q 0).toNat) < (ns.getD p 0).toNat + (ns.getD q 0).toNat := Nat.mod_lt _ (by omega)
  unfold restI
  omega
theorem ran_p (k : Nat) : (ranL ns p q k).getD p 0 = restI ns p q k := by
  unfold ranL
  rw [List.getD_eq_getElem?_getD, List.getElem?_set_ne ok.ne.symm, List.getElem?_set_self ok.hp]
  rfl
theorem ran_q (k : Nat) : (ranL ns p q k).getD q 0 = ns.getD p 0 + ns.getD q 0 - restI ns p q k := by
  unfold ranL
  rw [List.getD_eq_getElem?_getD, List.getElem?_set_self (by rw [List.length_set]; exact ok.hq)]
  rfl
theorem ran_len (k : Nat) : (ranL ns p q k).length = ns.length := by
  unfold ranL
  rw [List.length_set, List.length_set]
theorem ran_vals (k : Nat) : ∀ v ∈ ranL ns p q k, 0 ≤ v ∧ v < 2 ^ 120 := by
  have hr := rest_lt ok hv k
  have b1 := hv _ (mem_getD ok.hp)
  have b2 := hv _ (mem_getD ok.hq)
  intro v h
  rcases List.mem_or_eq_of_mem_set h with h | h
  · rcases List.mem_or_eq_of_mem_set h with h | h
    · have := hv v h
      omega
    · omega
  · omega
/-- behind f of k deeds the run goes on -/
theorem ran_mid {f k : Nat} (hf : f < k) (hm : mayK ns p q k = true) : RunOk (ranL ns p q f) p q ∧ mayK (ranL ns p q f) p q ((k - f : Nat) : Int) = true ∧ ranL (ranL ns p q f) p q (k - f) = ranL ns p q k := by
  have h1 := nat_p ok hv
  have h2 := nat_q ok hv
  have p0 := ok.p0
  have q0 := ok.q0
  have A0 : 0 < (ns.getD p 0).toNat := by omega
  have B0 : 0 < (ns.getD q 0).toNat := by omega
  have hdue : due (ns.getD p 0).toNat (ns.getD q 0).toNat = none ∨ ∃ d, due (ns.getD p 0).toNat (ns.getD q 0).toNat = some d ∧ f < d := by
    unfold mayK at hm
    cases h : due (ns.getD p 0).toNat (ns.getD q 0).toNat with
    | none => exact .inl rfl
    | some d =>
      rw [h] at hm
      have := of_decide_eq_true hm
      exact .inr ⟨d, rfl, by omega⟩
  have hpos := rest_pos A0 B0 hdue
  have hdr := due_rest A0 B0 hpos
  have hlt : (ns.getD p 0).toNat * 2 ^ f % ((ns.getD p 0).toNat + (ns.getD q 0).toNat) < (ns.getD p 0).toNat + (ns.getD q 0).toNat := Nat.mod_lt _ (by omega)
  have er : restI ns p q f = (((ns.getD p 0).toNat * 2 ^ f % ((ns.getD p 0).toNat + (ns.getD q 0).toNat) : Nat) : Int) := rfl
  have ep : (ranL ns p q f).getD p 0 = restI ns p q f := ran_p ok hv f
  have eq : (ranL ns p q f).getD q 0 = ns.getD p 0 + ns.getD q 0 - restI ns p q f := ran_q ok hv f
  have tp : ((ranL ns p q f).getD p 0).toNat = (ns.getD p 0).toNat * 2 ^ f % ((ns.getD p 0).toNat + (ns.getD q 0).toNat) := by rw [ep, er, Int.toNat_natCast]
  have tq : ((ranL ns p q f).getD q 0).toNat = (ns.getD p 0).toNat + (ns.getD q 0).toNat - (ns.getD p 0).toNat * 2 ^ f % ((ns.getD p 0).toNat + (ns.getD q 0).toNat) := by
    rw [eq, er]
    omega
  refine ⟨⟨by rw [ran_len ok hv]; exact ok.hp, by rw [ran_len ok hv]; exact ok.hq, by rw [ep, er]; omega, by rw [eq, er]; omega, ok.ne⟩, ?_, ?_⟩
  · unfold mayK at hm ⊢
    rw [tp, tq, hdr]
    cases h : due (ns.getD p 0).toNat (ns.getD q 0).toNat with
    | none => rfl
    | some d =>
      rw [h] at hm
      have := of_decide_eq_true hm
      show decide (((k - f : Nat) : Int) ≤ ((d - f : Nat) : Int)) = true
      exact decide_eq_true (by omega)
  · have e1 : restI (ranL ns p q f) p q (k - f) = restI ns p q k := by
      unfold restI
      rw [tp, tq, show (ns.getD p 0).toNat * 2 ^ f % ((ns.getD p 0).toNat + (ns.getD q 0).toNat) + ((ns.getD p 0).toNat + (ns.getD q 0).toNat - (ns.getD p 0).toNat * 2 ^ f % ((ns.getD p 0).toNat + (ns.getD q 0).toNat)) = (ns.getD p 0).toNat + (ns.getD q 0).toNat by omega]
      rw [Nat.mul_mod, Nat.mod_mod, ← Nat.mul_mod, Nat.mul_assoc, ← Nat.pow_add, show f + (k - f) = k by omega]
    have e2 : (ranL ns p q f).getD p 0 + (ranL ns p q f).getD q 0 = ns.getD p 0 + ns.getD q 0 := by rw [ep, eq]; omega
    have e3 : ranL (ranL ns p q f) p q (k - f) = ((ranL ns p q f).set p (restI (ranL ns p q f) p q (k - f))).set q ((ranL ns p q f).getD p 0 + (ranL ns p q f).getD q 0 - restI (ranL ns p q f) p q (k - f)) := rfl
    rw [e3, e1, e2]
    unfold ranL
    rw [List.set_comm _ _ ok.ne.symm, List.set_set, List.set_set]
end
abbrev sRight : Stmt := topS 26
abbrev nRight : List Str := ["_law_box_here", "_law_here", "_law_one", "_law_two_here", "_law_often", "_law_left", "_law_due", "_law_some", "_law_many", "_law_may", "_law_there", "_law_first", "_law_amid"]
theorem scRight : FnScope ["_law_box_here", "_law_here", "_law_one", "_law_two_here", "_law_often", "_law_left", "_law_due", "_law_some", "_law_many", "_law_may", "_law_there", "_law_first", "_law_amid"] ["_law_box_here", "_law_here", "_law_one", "_law_two_here"] (defScope sRight) := ⟨rfl, rfl, rfl, by decide +kernel, rfl, by decide +kernel, by decide +kernel⟩
section
variable {P : Program} {w : World} {K : PySem.W.Frag} {mg : Str → Option Value} {base : Heap}
def spRight : Sp := fun vs H Q _ => ∃ b a ns n, ∃ p q : Nat, vs = [.ref b, .ref a, .int p, .int q] ∧ Box H b n ∧ n ≤ 800000 ∧ H a = some (.tup (ns.map V.int)) ∧ RunOk ns p q ∧ (∀ v ∈ ns, 0 ≤ v ∧ v < 2 ^ 110) ∧ ns.length ≤ 12 ∧ a ≠ b ∧ ∀ H', Box H' b (n + 100) → SX b H H' → Q (.bl true) H'
theorem ok_right {f fT fPa fEn fMa fRn fBe : Addr} {fd fdT fdPa fdEn fdMa fdRn fdBe : FuncData} {k : Nat} (sys : SysD base) (F : Fun K "_law_right" "_law_right" sRight f fd)
    (FT : Fun K "_law_take" "_law_take" sTake fT fdT) (bT : Binds K fdT ["_law_box_here", "_law_many"] []) (gT : mg "_law_take" = some (.ref fT))
    (FPa : Fun K "_law_parts" "_law_parts" sParts fPa fdPa) (bPa : Binds K fdPa ["_law_first", "_law_second"] []) (gPa : mg "_law_parts" = some (.ref fPa)) (GPa : FnOk P w K mg base CX0 (k + 1) fPa fdPa ["_law_first", "_law_second"] spParts)
    (FEn : Fun K "ended_by" "ended_by" sEnded fEn fdEn) (bEn : Binds K fdEn ["row", "i", "j"] []) (gEn : mg "ended_by" = some (.ref fEn)) (GEn : FnOk P w K mg base CX0 (k + 3) fEn fdEn ["row", "i", "j"] spEnded)
    (FMa : Fun K "may_run" "may_run" sMay fMa fdMa) (bMa : Binds K fdMa ["row", "run"] []) (gMa : mg "may_run" = some (.ref fMa)) (GMa : FnOk P w K mg base CX0 (k + 5) fMa fdMa ["row", "run"] spMay)
    (FRn : Fun K "ran" "ran" sRan fRn fdRn) (bRn : Binds K fdRn ["row", "run"] []) (gRn : mg "ran" = some (.ref fRn)) (GRn : FnOk P w K mg base CX0 (k + 6) fRn fdRn ["row", "run"] spRan)
    (FBe : Fun K "_law_behind" "_law_behind" sBehind fBe fdBe) (bBe : Binds K fdBe ["_law_here", "_law_one", "_law_two_here", "_law_many"] []) (gBe : mg "_law_behind" = some (.ref fBe)) (GBe : FnOk P w K mg base CX0 (k + 2) fBe fdBe ["_law_here", "_law_one", "_law_two_here", "_law_many"] spBehind)
    (mr : mg "repr" = none) : FnG P w K mg base (k + 7) f fd ["_law_box_here", "_law_here", "_law_one", "_law_two_here"] spRight := by
  have GT : FnOk P w K mg base CX0 (k + 1) fT fdT ["_law_box_here", "_law_many"] spTake := ok_take FT
  refine okG F scRight (fun vs H Q E h => ?_) (fun cdv A outer s H vs Q E gd hr h => ?_)
  · obtain ⟨b, a, ns, n, p, q, rfl, _⟩ := h
    rfl
  · obtain ⟨b, a, ns, n, p, p2, rfl, hB, hn, ea, ok, hv, hl, nab, q⟩ := h
    have hr1 := hr.mono (show k + 1 ≤ k + 6 by omega)
    have hr2 := hr.mono (show k + 2 ≤ k + 6 by omega)
    have hr3 := hr.mono (show k + 3 ≤ k + 6 by omega)
    have hr5 := hr.mono (show k + 5 ≤ k + 6 by omega)
    have cr : ∀ {X : Cx}, X = (cxOf CX0 P w K mg base nRight "_law_right" (defScope sRight) f cdv A outer s H E).nox →
        CallR X (.builtin "repr") (fun xs H Q => ∃ x d, xs = [x] ∧ Dd H x d ∧ d.showable = true ∧ d.depth ≤ 60 ∧ d.shown.length ≤ sizeLine ∧ Q (.str d.shown) H) := by
      rintro X rfl
      exact call_repr gd (by have := hr.un; show (A.deeper _).units + 100 < cLine; omega) sys
    have R := cr rfl
    refine ⟨_, (pss_cons (ps_asg (pe_call GPa hr1 (by rfl) gPa FPa.kp bPa .nil pass0 (pa_cons (pe_ix ix_tup (pv 1) (pv 2) (fun _ _ => rfl)) (pa_cons (pe_ix ix_tup (pv 1) (pv 3) (fun _ _ => rfl)) pa_nil))) (pg_tup rfl (pgs_cons (pg_name (i := 4) scRight.nd rfl (.inl rfl)) (pgs_cons (pg_name (i := 5) scRight.nd rfl (.inl rfl)) pgs_nil))))
        (pss_mid (ps_set (i := 6) scRight.nd rfl (.inl rfl) (pe_ifExp (pt_cmpR op_eq (pv 5) pe_int (nomark _)) (pv 4) pe_non))
        (pss_cons (ps_if (pt_cmpR op_ne (pe_callB R (by rfl) mr (by decide +kernel) (pa_cons (pe_call GEn hr3 (by rfl) gEn FEn.kp bEn .nil pass0 (pa_cons (pv 1) (pa_cons (pv 2) (pa_cons (pv 3) pa_nil)))) pa_nil)) (pe_callB R (by rfl) mr (by decide +kernel) (pa_cons (pv 6) pa_nil)) (nomark _)) (pss_one (ps_ret pe_bl)) pss_nil)
        (pss_cons (ps_set (i := 7) scRight.nd rfl (.inl rfl) (pe_lst (pa_cons pe_int (pa_cons pe_int (pa_cons pe_int (pa_cons pe_int (pa_cons pe_int (pa_cons (pe_call GT hr1 (by rfl) gT FT.kp bT .nil pass0 (pa_cons (pv 0) (pa_cons (pe_op op_pow pe_int pe_int) pa_nil))) (pa_cons (pe_op op_add (pe_op op_pow pe_int pe_int) (pe_call GT hr1 (by rfl) gT FT.kp bT .nil pass0 (pa_cons (pv 0) (pa_cons (pe_op op_pow pe_int pe_int) pa_nil)))) pa_nil)))))))))
        (pss_mid (ps_if (pt_cmpR op_notN (pv 6) pe_non (nomark _)) (pss_one (ps_set (i := 7) scRight.nd rfl (.inl rfl) (pe_lst (pa_cons pe_int (pa_cons pe_int (pa_cons (pe_op op_sub (pv 6) pe_int) (pa_cons (pv 6) (pa_cons (pe_op op_add (pv 6) pe_int) (pa_cons (pe_op op_add (pv 6) (pe_call GT hr1 (by rfl) gT FT.kp bT .nil pass0 (pa_cons (pv 0) (pa_cons (pe_op op_pow pe_int pe_int) pa_nil)))) pa_nil))))))))) pss_nil)
        (pss_cons (ps_for PassesOwn.never rfl (pi_list (pv 7)) (pg_name (i := 8) scRight.nd rfl (.inl rfl)) (pss_mid (ps_set (i := 9) scRight.nd rfl (.inl rfl) (pe_or (pe_cmp (pc_isN (pv 6)) rfl) (pe_one (pe_cmpR op_le (pv 8) (pv 6) (nomark _)))))
        (pss_cons (ps_if (pt_cmpR op_ne (pe_callB R (by rfl) mr (by decide +kernel) (pa_cons (pe_call GMa hr5 (by rfl) gMa FMa.kp bMa .nil pass0 (pa_cons (pv 1) (pa_cons (pe_tup (pa_cons (pv 2) (pa_cons (pv 3) (pa_cons (pv 8) pa_nil)))) pa_nil))) pa_nil)) (pe_callB R (by rfl) mr (by decide +kernel) (pa_cons (pv 9) pa_nil)) (nomark _)) (pss_one (ps_ret pe_bl)) pss_nil)
        (pss_one (ps_if (pt_val (pv 9)) (pss_cons (ps_set (i := 10) scRight.nd rfl (.inl rfl) (pe_call GRn hr (by rfl) gRn FRn.kp bRn .nil pass0 (pa_cons (pv 1) (pa_cons (pe_tup (pa_cons (pv 2) (pa_cons (pv 3) (pa_cons (pv 8) pa_nil)))) pa_nil))))
        (pss_cons (ps_if (pt_cmpR (op_neD hr.units) (pv 10) (pe_call GBe hr2 (by rfl) gBe FBe.kp bBe .nil pass0 (pa_cons (pv 1) (pa_cons (pv 2) (pa_cons (pv 3) (pa_cons (pv 8) pa_nil))))) (nomark _)) (pss_one (ps_ret pe_bl)) pss_nil)
        (pss_cons (ps_set (i := 11) scRight.nd rfl (.inl rfl) (pe_call GT hr1 (by rfl) gT FT.kp bT .nil pass0 (pa_cons (pv 0) (pa_cons (pe_op op_add (pv 8) pe_int) pa_nil))))
        (pss_cons (ps_set (i := 12) scRight.nd rfl (.inl rfl) (pe_call GRn hr (by rfl) gRn FRn.kp bRn .nil pass0 (pa_cons (pv 1) (pa_cons (pe_tup (pa_cons (pv 2) (pa_cons (pv 3) (pa_cons (pv 11) pa_nil)))) pa_nil))))
        (pss_one (ps_if (PW.pt (pw_and (pt_cmpR op_lt (pv 11) (pv 8) (nomark _)) (pw_and1 (pt_cmpR (op_neD hr.units) (pe_call GRn hr (by rfl) gRn FRn.kp bRn .nil pass0 (pa_cons (pv 12) (pa_cons (pe_tup (pa_cons (pv 2) (pa_cons (pv 3) (pa_cons (pe_op op_sub (pv 8) (pv 11)) pa_nil)))) pa_nil))) (pv 10) (nomark _))))) (pss_one (ps_ret pe_bl)) pss_nil)))))) pss_nil)))))
        (pss_one (ps_ret pe_bl)))))))), ?_⟩
    have rw0 : Rw H a ns := ⟨ea, fun v h => ⟨(hv v h).1, by have := (hv v h).2; omega⟩, by omega⟩
    have hS : SqT K H a (ns.map V.int) := SqT.of ea
    have bp := hv _ (mem_getD ok.hp)
    have bq := hv _ (mem_getD ok.hq)
    have p0 := ok.p0
    have q0 := ok.q0
    have np := nat_p ok hv
    have nq := nat_q ok hv
    refine ⟨.ref a, rfl, _, rfl, a, _, (p : Int), .int (ns.getD p 0), rfl, rfl, hS, atI_nat (getD_at ok.hp), .ref a, rfl, _, rfl, a, _, (p2 : Int), .int (ns.getD p2 0), rfl, rfl, hS, atI_nat (getD_at ok.hq), (ns.getD p 0).toNat, (ns.getD p2 0).toNat, by rw [np, nq]; rfl, by omega, by omega, by omega, by omega, fun t1 H1 s1 e1 => ?_⟩
    refine ⟨t1, _, rfl, SqT.of e1, rfl, _, _, rfl, _, _, rfl, rfl, ?_⟩
    -- due
    have hS0 := shares_pos (a := (ns.getD p 0).toNat) (b := (ns.getD p2 0).toNat) (by omega) (by omega)
    have hSle : shares (ns.getD p 0).toNat (ns.getD p2 0).toNat < 2 ^ 120 := by
      refine Nat.lt_of_le_of_lt (Nat.div_le_self _ _) ?_
      omega
    have hd1000 : ∀ d, due (ns.getD p 0).toNat (ns.getD p2 0).toNat = some d → d < 1000 := fun d h => by
      unfold due at h
      split at h
      · cases h
      · cases h
        have h1 := Nat.le_of_dvd hS0 (pow_v2_dvd (shares (ns.getD p 0).toNat (ns.getD p2 0).toNat))
        refine Nat.lt_of_not_le fun z => ?_
        have h2 : 2 ^ 1000 ≤ 2 ^ v2 (shares (ns.getD p 0).toNat (ns.getD p2 0).toNat) := Nat.pow_le_pow_right (by decide) z
        have h3 : (2 : Nat) ^ 120 < 2 ^ 1000 := Nat.pow_lt_pow_right (by decide) (by decide)
        omega
    have hd1 : ∀ d, due (ns.getD p 0).toNat (ns.getD p2 0).toNat = some d → 1 ≤ d := fun d h => by
      have hm := shares_mul (a := (ns.getD p 0).toNat) (b := (ns.getD p2 0).toNat) (by omega) (by omega)
      have hg : Nat.gcd (ns.getD p 0).toNat (ns.getD p2 0).toNat ≤ (ns.getD p 0).toNat := Nat.le_of_dvd (by omega) (Nat.gcd_dvd_left _ _)
      have h2 : 2 ≤ shares (ns.getD p 0).toNat (ns.getD p2 0).toNat := by
        refine Nat.le_of_not_lt fun z => ?_
        have : shares (ns.getD p 0).toNat (ns.getD p2 0).toNat = 1 := by omega
        rw [this, Nat.one_mul] at hm
        omega
      unfold due at h
      split at h
      · cases h
      · rename_i hno
        cases h
        refine Nat.pos_of_ne_zero fun z => ?_
        rw [z, Nat.pow_zero, Nat.div_one] at hno
        omega
    have hodd1 : 1 ≤ shares (ns.getD p 0).toNat (ns.getD p2 0).toNat / 2 ^ v2 (shares (ns.getD p 0).toNat (ns.getD p2 0).toNat) := by
      have := odd_rest hS0
      exact Nat.pos_of_ne_zero fun z => by
        rw [z] at this
        exact absurd this (by decide)
    have edue : due (ns.getD p 0).toNat (ns.getD p2 0).toNat = if shares (ns.getD p 0).toNat (ns.getD p2 0).toNat / 2 ^ v2 (shares (ns.getD p 0).toNat (ns.getD p2 0).toNat) = 1 then some (v2 (shares (ns.getD p 0).toNat (ns.getD p2 0).toNat)) else none := by
      unfold due
      by_cases h : shares (ns.getD p 0).toNat (ns.getD p2 0).toNat / 2 ^ v2 (shares (ns.getD p 0).toNat (ns.getD p2 0).toNat) > 1
      · rw [if_pos h, if_neg (by omega)]
      · rw [if_neg h, if_pos (by omega)]
    generalize hof : v2 (shares (ns.getD p 0).toNat (ns.getD p2 0).toNat) = often at edue e1 ⊢
    generalize shares (ns.getD p 0).toNat (ns.getD p2 0).toNat / 2 ^ often = left at edue hodd1 e1 ⊢
    obtain ⟨o1, z1⟩ := hB.get
    have hB1 : Box H1 b n := hB.at (by rw [s1 _ _ z1, z1])
    have X1 : SX b H H1 := .of_same s1
    have ea1 := s1 _ _ ea
    have rw1 : Rw H1 a ns := rw0.same s1
    generalize hdue : due (ns.getD p 0).toNat (ns.getD p2 0).toNat = du at edue hd1000 hd1
    have mK : ∀ m : Nat, mayK ns p p2 m = mayO du m := fun m => by unfold mayK mayO; rw [hdue] <;> rfl
    obtain ⟨w1, w2, w3⟩ := due_show hd1000
    refine ⟨fun σ H' => σ = [some (.ref b), some (.ref a), some (.int p), some (.int p2), some (.int often), some (.int left), some (dueV du), none, none, none, none, none, none] ∧ H' = H1, ?_, ?_⟩
    · refine ⟨_, rfl, rfl, _, rfl, ite2 (fun h => ?_) (fun h => ?_)⟩
      · have h' : left = 1 := by have := V.int.inj (of_decide_eq_true h); omega
        rw [if_pos h'] at edue
        refine ⟨_, rfl, ?_, rfl⟩
        rw [edue]
        rfl
      · have h' : ¬ left = 1 := fun z => h (decide_eq_true (by rw [z]; rfl))
        rw [if_neg h'] at edue
        refine ⟨?_, rfl⟩
        rw [edue]
        rfl
    rintro σ H' ⟨rfl, rfl⟩
    -- ended_by
    refine ⟨_, rfl, _, rfl, _, rfl, a, ns, p, p2, rfl, rw1, ok.hp, ok.hq, ok.p0, ok.q0, ?_⟩
    rw [hdue]
    refine ⟨_, dueD du, rfl, due_dd du, w1, w2, w3, _, rfl, _, dueD du, rfl, due_dd du, w1, w2, w3, rfl, _, rfl, iteNS rfl ?_⟩
    have cpow : ∀ {x y : Int}, 0 ≤ y → y ≤ 64 → 0 ≤ x → x ≤ 10 → CPow x y := fun h1 h2 h3 h4 => ⟨h1, by omega, by omega⟩
    refine ⟨.ref b, rfl, 10, 6, rfl, rfl, cpow (by decide) (by decide) (by decide) (by decide), b, 10 ^ 6, n, rfl, hB1, by omega, by decide, by decide, fun r2 H2 r20 r21 hB2 k2 => ?_⟩
    refine ⟨10, 29, rfl, rfl, cpow (by decide) (by decide) (by decide) (by decide), .ref b, rfl, 10, 20, rfl, rfl, cpow (by decide) (by decide) (by decide) (by decide), b, 10 ^ 20, n + 1, rfl, hB2, by omega, by decide, by decide, fun r3 H3 r30 r31 hB3 k3 => ⟨_, r3, rfl, rfl, by show 7 ≤ sizeLine; decide, fun so nso => ?_⟩⟩
    have X3 : SX b H H3 := (X1.trans (.of_eq k2)).trans (.of_eq k3)
    refine ⟨fun σ H' => ∃ so, ∃ ms : List Int, σ = [some (.ref b), some (.ref a), some (.int p), some (.int p2), some (.int often), some (.int left), some (dueV du), some (.ref so), none, none, none, none, none] ∧ H' so = some (.lst (ms.map V.int)) ∧ so ≠ b ∧ (∀ m ∈ ms, 0 ≤ m ∧ m ≤ 10 ^ 30) ∧ ms.length ≤ 7 ∧ SX b H H' ∧ Box H' b (n + 3), ?_, ?_⟩
    · obtain ⟨o3, z3⟩ := hB3.get
      have nsb : so ≠ b := (ne_of_none z3 nso).symm
      have X4 := X3.new (o := .lst ([0, 1, 2, 3, 60, r2, 10 ^ (29 : Int).toNat + r3].map V.int)) nso
      have hB4 := hB3.new (o := .lst ([0, 1, 2, 3, 60, r2, 10 ^ (29 : Int).toNat + r3].map V.int)) nso
      have e4 : upd H3 so (.lst ([0, 1, 2, 3, 60, r2, 10 ^ (29 : Int).toNat + r3].map V.int)) so = some (.lst ([0, 1, 2, 3, 60, r2, 10 ^ (29 : Int).toNat + r3].map V.int)) := upd_same
      have v4 : ∀ m ∈ [0, 1, 2, 3, 60, r2, (10 : Int) ^ (29 : Int).toNat + r3], 0 ≤ m ∧ m ≤ 10 ^ 30 := fun m hm => by
        have e29 : (10 : Int) ^ (29 : Int).toNat = 100000000000000000000000000000 := by decide
        rw [e29] at hm
        simp only [List.mem_cons, List.not_mem_nil, or_false] at hm
        rcases hm with rfl | rfl | rfl | rfl | rfl | rfl | rfl <;> omega
      cases du with
      | none =>
        exact ⟨_, rfl, rfl, _, rfl, iteF ⟨so, [0, 1, 2, 3, 60, r2, 10 ^ (29 : Int).toNat + r3], rfl, e4, nsb, v4, by show 7 ≤ 7; decide, X4, hB4.le (by omega)⟩⟩
      | some d =>
        have d1 := hd1 d rfl
        have d2 := hd1000 d rfl
        refine ⟨_, rfl, rfl, _, rfl, iteT ?_⟩
        refine ⟨_, rfl, (d : Int), 1, rfl, rfl, _, rfl, _, rfl, (d : Int), 1, rfl, rfl, _, rfl, .ref b, rfl, 10, 9, rfl, rfl, cpow (by decide) (by decide) (by decide) (by decide), b, 10 ^ 9, n + 2, rfl, hB4, by omega, by decide, by decide, fun r4 H5 r40 r41 hB5 k5 => ⟨(d : Int), r4, rfl, rfl, by show 6 ≤ sizeLine; decide, fun s2 ns2 => ?_⟩⟩
        obtain ⟨o5, z5⟩ := hB5.get
        refine ⟨s2, [0, 1, d - 1, d, d + 1, d + r4], rfl, upd_same, (ne_of_none z5 ns2).symm, fun m hm => ?_, by show 6 ≤ 7; decide, (X4.trans (.of_eq k5)).new ns2, hB5.new ns2⟩
        simp only [List.mem_cons, List.not_mem_nil, or_false] at hm
        rcases hm with rfl | rfl | rfl | rfl | rfl | rfl <;> omega
    rintro σ H4 ⟨so, ms, rfl, eso, nsb, hms, hlm, X4, hB4⟩
    refine ⟨.ref so, rfl, so, rfl, ⟨_, SqL.of eso⟩, ?_⟩
    refine for_list (K := K) (a := so) (xs := ms.map V.int) (fun i σ H' => ∃ y8 y9 y10 y11 y12, σ = [some (.ref b), some (.ref a), some (.int p), some (.int p2), some (.int often), some (.int left), some (dueV du), some (.ref so), y8, y9, y10, y11, y12] ∧ H' so = some (.lst (ms.map V.int)) ∧ SX b H H' ∧ Box H' b (n + 3 + i)) ⟨_, _, _, _, _, rfl, eso, X4, hB4⟩ ?_ ?_ ?_
    · rintro i σ H' _ ⟨_, _, _, _, _, _, e, _⟩
      exact SqL.of e
    rotate_left
    · rintro σ H' ⟨_, _, _, _, _, rfl, _, X', hB'⟩
      rw [List.length_map] at hB'
      exact q H' (hB'.le (by omega)) X'
    rintro i xm σ H5 hxm ⟨y8, y9, y10, y11, y12, rfl, eso5, X5, hB5⟩
    have hi : i < ms.length := by
      have := (List.getElem?_eq_some_iff.mp hxm).1
      rw [List.length_map] at this
      exact this
    rw [List.getElem?_map] at hxm
    obtain ⟨mi, hmi, rfl⟩ := Option.map_eq_some_iff.mp hxm
    have hmi' := hms mi (List.mem_of_getElem? hmi)
    obtain ⟨m, rfl⟩ : ∃ j : Nat, mi = (j : Int) := ⟨mi.toNat, by omega⟩
    have ea5 : H5 a = some (.tup (ns.map V.int)) := X5 _ _ nab ea
    have rw5 : Rw H5 a ns := ⟨ea5, rw0.2⟩
    refine ⟨fun σ H' => σ = [some (.ref b), some (.ref a), some (.int p), some (.int p2), some (.int often), some (.int left), some (dueV du), some (.ref so), some (.int m), some (.bl (mayO du m)), y10, y11, y12] ∧ H' = H5, ?_, ?_⟩
    · cases du with
      | none => exact ⟨_, rfl, true, rfl, iteT ⟨rfl, rfl⟩⟩
      | some d => exact ⟨_, rfl, false, rfl, iteF ⟨_, rfl, _, rfl, (m : Int), (d : Int), rfl, rfl, rfl, rfl⟩⟩
    rintro σ H' ⟨rfl, rfl⟩
    -- may_run
    refine ⟨_, rfl, _, rfl, _, rfl, _, rfl, by show 3 ≤ sizeLine; decide, fun tp ntp => ?_⟩
    have s6 := same_upd ntp (o := .tup [.int p, .int p2, .int m])
    have e6 : upd H' tp (.tup [.int p, .int p2, .int m]) tp = some (.tup [.int p, .int p2, .int m]) := upd_same
    have X6 := X5.new (o := .tup [.int p, .int p2, .int m]) ntp
    have hB6 := hB5.new (o := .tup [.int p, .int p2, .int m]) ntp
    generalize upd H' tp (HO.tup [.int p, .int p2, .int m]) = H6 at s6 e6 X6 hB6 ⊢
    have rw6 : Rw H6 a ns := rw5.same s6
    have eso6 := s6 _ _ eso5
    refine ⟨a, ns, .ref tp, .tuple ([(p : Int), (p2 : Int), (m : Int)].map PyData.int), rfl, rw6, .tup e6 (ddI [(p : Int), (p2 : Int), (m : Int)]), ?_⟩
    have emay : mayD ns (.tuple ([(p : Int), (p2 : Int), (m : Int)].map PyData.int)) = mayO du m := by
      show mayD ns (.tuple [.int p, .int p2, .int m]) = _
      rw [mayD_eq, runD_of ok, Int.toNat_natCast, Int.toNat_natCast, mK, Bool.true_and]
    rw [emay]
    refine ⟨_, .bool (mayO du m), rfl, .bl _, rfl, Nat.zero_le _, bool_show _, _, rfl, _, .bool (mayO du m), rfl, .bl _, rfl, Nat.zero_le _, bool_show _, rfl, _, rfl, iteNS rfl ?_⟩
    refine ⟨_, rfl, mayO du m, rfl, ?_⟩
    cases hmay : mayO du m with
    | false => exact iteF ⟨_, _, _, _, _, rfl, eso6, X6, hB6.le (by omega)⟩
    | true =>
      refine iteT ?_
      have hmK : mayK ns p p2 m = true := by rw [mK]; exact hmay
      -- there
      refine ⟨_, rfl, _, rfl, _, rfl, _, rfl, by show 3 ≤ sizeLine; decide, fun t7 nt7 => ?_⟩
      have s7 := same_upd nt7 (o := .tup [.int p, .int p2, .int m])
      have e7 : upd H6 t7 (.tup [.int p, .int p2, .int m]) t7 = some (.tup [.int p, .int p2, .int m]) := upd_same
      generalize upd H6 t7 (HO.tup [.int p, .int p2, .int m]) = H7 at s7 e7 ⊢
      refine ⟨a, ns, .ref t7, p, p2, m, rfl, rw6.same s7, .tup e7 (ddI [(p : Int), (p2 : Int), (m : Int)]), ok, hmK, fun t8 H8 s8 e8 => ?_⟩
      have S8 := s7.trans s8
      -- behind
      refine ⟨_, rfl, _, rfl, _, rfl, _, rfl, _, rfl, a, ns, p, p2, m, rfl, rw6.same S8, ok, fun t9 H9 s9 e9 => ?_⟩
      have e89 := s9 _ _ e8
      refine ⟨.tuple ((ranL ns p p2 m).map PyData.int), .tuple ((ranL ns p p2 m).map PyData.int), .tup (SqT.of e89) (dpInts _), .tup (SqT.of e9) (dpInts _), shaped_tup _, shaped_tup _, _, rfl, ?_⟩
      rw [SeqAt.eqv_refl _ (SeqAt.canLay_of_shaped (shaped_tup (ranL ns p p2 m)))]
      refine iteF ?_
      have S9 := S8.trans s9
      obtain ⟨o6, z6⟩ := hB6.get
      have hB9 : Box H9 b (n + 3 + i) := hB6.at (by rw [S9 _ _ z6, z6])
      have X9 : SX b H H9 := X6.trans (.of_same S9)
      -- first
      refine ⟨.ref b, rfl, _, rfl, (m : Int), 1, rfl, rfl, b, (m : Int) + 1, n + 3 + i, rfl, hB9, by omega, by omega, by omega, fun fr H10 fr0 fr1 hB10 k10 => ?_⟩
      obtain ⟨ff, rfl⟩ : ∃ j : Nat, fr = (j : Int) := ⟨fr.toNat, by omega⟩
      have X10 : SX b H H10 := X9.trans (.of_eq k10)
      have nt8b : t8 ≠ b := fun z => by
        obtain ⟨_, _, _, zz, _⟩ := hB9
        rw [z, zz] at e89
        cases e89
      have e810 : H10 t8 = some (.tup ((ranL ns p p2 m).map V.int)) := by rw [k10 t8 nt8b]; exact e89
      have eso10 : H10 so = some (.lst (ms.map V.int)) := by rw [k10 so nsb]; exact S9 _ _ eso6
      have rw10 : Rw H10 a ns := ⟨X10 _ _ nab ea, rw0.2⟩
      have hfm : mayK ns p p2 ff = true := by
        rw [mK]
        unfold mayO at hmay ⊢
        cases du with
        | none => rfl
        | some d =>
          have := of_decide_eq_true hmay
          exact decide_eq_true (by omega)
      -- amid
      refine ⟨_, rfl, _, rfl, _, rfl, _, rfl, by show 3 ≤ sizeLine; decide, fun t11 nt11 => ?_⟩
      have s11 := same_upd nt11 (o := .tup [.int p, .int p2, .int ff])
      have e11 : upd H10 t11 (.tup [.int p, .int p2, .int ff]) t11 = some (.tup [.int p, .int p2, .int ff]) := upd_same
      generalize upd H10 t11 (HO.tup [.int p, .int p2, .int ff]) = H11 at s11 e11 ⊢
      refine ⟨a, ns, .ref t11, p, p2, ff, rfl, rw10.same s11, .tup e11 (ddI [(p : Int), (p2 : Int), (ff : Int)]), ok, hfm, fun t12 H12 s12 e12 => ?_⟩
      have S12 := s11.trans s12
      obtain ⟨o10, z10⟩ := hB10.get
      have fin : ∀ {G : Hp}, Same H12 G → ∃ y8 y9 y10 y11 y12, [some (V.ref b), some (.ref a), some (.int p), some (.int p2), some (.int often), some (.int left), some (dueV du), some (.ref so), some (.int m), some (.bl true), some (.ref t8), some (.int ff), some (.ref t12)] = [some (.ref b), some (.ref a), some (.int p), some (.int p2), some (.int often), some (.int left), some (dueV du), some (.ref so), y8, y9, y10, y11, y12] ∧ G so = some (.lst (ms.map V.int)) ∧ SX b H G ∧ Box G b (n + 3 + (i + 1)) := fun sg => by
        have SG := S12.trans sg
        exact ⟨_, _, _, _, _, rfl, SG _ _ eso10, X10.trans (.of_same SG), hB10.at (by rw [SG _ _ z10, z10])⟩
      refine ⟨_, rfl, _, rfl, (ff : Int), (m : Int), rfl, rfl, _, rfl, ite2 (fun hlt => ?_) (fun hlt => ?_)⟩
      · have hlt' : ff < m := by have := of_decide_eq_true hlt; omega
        obtain ⟨ok2, may2, eqL⟩ := ran_mid ok hv hlt' hmK
        have rwA : Rw H12 t12 (ranL ns p p2 ff) := ⟨e12, ran_vals ok hv ff, by rw [ran_len ok hv]; omega⟩
        refine ⟨_, rfl, _, rfl, _, rfl, _, rfl, _, rfl, (m : Int), (ff : Int), rfl, rfl, by show 3 ≤ sizeLine; decide, fun t13 nt13 => ?_⟩
        have esub : (m : Int) - (ff : Int) = ((m - ff : Nat) : Int) := by omega
        have s13 := same_upd nt13 (o := .tup [.int p, .int p2, .int ((m : Int) - (ff : Int))])
        have e13 : upd H12 t13 (.tup [.int p, .int p2, .int ((m : Int) - (ff : Int))]) t13 = some (.tup [.int p, .int p2, .int ((m : Int) - (ff : Int))]) := upd_same
        generalize upd H12 t13 (HO.tup [.int p, .int p2, .int ((m : Int) - (ff : Int))]) = H13 at s13 e13 ⊢
        rw [esub] at e13
        refine ⟨t12 |> fun z => z, ranL ns p p2 ff, .ref t13, p, p2, m - ff, rfl, rwA.same s13, .tup e13 (ddI [(p : Int), (p2 : Int), ((m - ff : Nat) : Int)]), ok2, may2, fun t14 H14 s14 e14 => ?_⟩
        rw [eqL] at e14
        have e814 := s14 _ _ (s13 _ _ (S12 _ _ e810))
        refine ⟨_, rfl, .tuple ((ranL ns p p2 m).map PyData.int), .tuple ((ranL ns p p2 m).map PyData.int), .tup (SqT.of e14) (dpInts _), .tup (SqT.of e814) (dpInts _), shaped_tup _, shaped_tup _, _, rfl, ?_⟩
        rw [SeqAt.eqv_refl _ (SeqAt.canLay_of_shaped (shaped_tup (ranL ns p p2 m)))]
        exact iteF (fin (s13.trans s14))
      · exact iteF (fin (Same.refl _))
end
end K06

namespace K06
open PySem PySem.Spec PyProof.Rows L2 MG
abbrev sLaw : Stmt := topS 27
theorem scLaw : FnScope ["_law_script", "_law_nth", "_law_box_here", "_law_turn", "_law_here", "_law_one", "_law_two_here"] ["_law_script"] (defScope sLaw) := ⟨rfl, rfl, rfl, by decide +kernel, rfl, by decide +kernel, by decide +kernel⟩
section
variable {P : Program} {w : World} {K : PySem.W.Frag} {mg : Str → Option Value} {base : Heap}
def spLaw (K : PySem.W.Frag) : Sp := fun vs H Q _ => ∃ (a : Addr) (ns : List Int), vs = [.ref a] ∧ SqL K H a (ns.map V.int) ∧ ns.length ≤ 63 ∧ ∀ H', Q (.bl true) H'
theorem ok_law {f fB fR fL : Addr} {fd fdB fdR fdL : FuncData} {k : Nat} (F : Fun K "law" "law" sLaw f fd)
    (FB : Fun K "_law_box" "_law_box" sBox fB fdB) (bB : Binds K fdB ["_law_script", "_law_k"] []) (gB : mg "_law_box" = some (.ref fB)) (GB : FnOk P w K mg base CX0 (k + 1) fB fdB ["_law_script", "_law_k"] (spBox K))
    (FR : Fun K "_law_right" "_law_right" sRight fR fdR) (bR : Binds K fdR ["_law_box_here", "_law_here", "_law_one", "_law_two_here"] []) (gR : mg "_law_right" = some (.ref fR)) (GR : FnG P w K mg base (k + 7) fR fdR ["_law_box_here", "_law_here", "_law_one", "_law_two_here"] spRight)
    (FL : Fun K "_law_line" "_law_line" sLine fL fdL) (bL : Binds K fdL ["_law_box_here"] []) (gL : mg "_law_line" = some (.ref fL)) (GL : FnOk P w K mg base CX0 (k + 4) fL fdL ["_law_box_here"] spLine)
    (ml : mg "len" = none) (mM : mg "max" = none) (mm : mg "min" = none) (mR : mg "range" = none) : FnG P w K mg base (k + 8) f fd ["_law_script"] (spLaw K) := by
  refine okG F scLaw (fun vs H Q E h => ?_) (fun cdv A outer s H vs Q E gd hr h => ?_)
  · obtain ⟨a, ns, rfl, _⟩ := h
    rfl
  · obtain ⟨a, ns, rfl, hS, hlen, q⟩ := h
    have hr1 := hr.mono (show k + 1 ≤ k + 7 by omega)
    have hr4 := hr.mono (show k + 4 ≤ k + 7 by omega)
    refine ⟨_, (pss_cons (ps_for PassesOwn.never rfl (pi_range1 rfl mR (pa_cons (pe_callB (call_max2 rfl) (by rfl) mM (by decide +kernel) (pa_cons pe_int (pa_cons (pe_callB (call_min2 rfl) (by rfl) mm (by decide +kernel) (pa_cons pe_int (pa_cons (pe_callB call_len_seq (by rfl) ml PySem.boot_len (pa_cons (pv 0) pa_nil)) pa_nil))) pa_nil))) pa_nil)) (pg_name (i := 1) scLaw.nd rfl (.inl rfl))
        (pss_cons (ps_set (i := 2) scLaw.nd rfl (.inl rfl) (pe_call GB hr1 (by rfl) gB FB.kp bB .nil pass0 (pa_cons (pv 0) (pa_cons (pv 1) pa_nil))))
        (pss_one (ps_for PassesOwn.never rfl (pi_range1 rfl mR (pa_cons pe_int pa_nil)) (pg_name (i := 3) scLaw.nd rfl (.inl rfl))
        (pss_cons (ps_asg (pe_call GL hr4 (by rfl) gL FL.kp bL .nil pass0 (pa_cons (pv 2) pa_nil)) (pg_tup rfl (pgs_cons (pg_name (i := 4) scLaw.nd rfl (.inl rfl)) (pgs_cons (pg_name (i := 5) scLaw.nd rfl (.inl rfl)) (pgs_cons (pg_name (i := 6) scLaw.nd rfl (.inl rfl)) pgs_nil)))))
        (pss_one (ps_if (pt_not (pt_val (pe_callG (E := E0) GR gd hr (by rfl) gR FR.kp bR (pa_cons (pv 2) (pa_cons (pv 4) (pa_cons (pv 5) (pa_cons (pv 6) pa_nil))))))) (pss_one (ps_ret pe_bl)) pss_nil)))))))
        (pss_one (ps_ret pe_bl))), ?_⟩
    refine ⟨.ref a, rfl, a, _, rfl, .inl hS, 3, _, rfl, 1, _, rfl, _, rfl, ?_, ?_, ?_⟩
    · rw [List.length_map]; split <;> split <;> omega
    · rw [List.length_map]; split <;> split <;> omega
    refine for_range (lo := 0) (n := _) (fun _ σ H' => ∃ y1 y2 y3 y4 y5 y6, σ = [some (.ref a), y1, y2, y3, y4, y5, y6] ∧ Same H H') ?_ ?_ ?_
    · exact ⟨none, none, none, none, none, none, rfl, Same.refl H⟩
    rotate_left
    · rintro σ H' ⟨y1, y2, y3, y4, y5, y6, rfl, sm⟩
      exact q H'
    rintro j σ G0 hj ⟨y1, y2, y3, y4, y5, y6, rfl, s0⟩
    have hj3 : j < 3 := by
      refine Nat.lt_of_lt_of_le hj ?_
      rw [List.length_map]; split <;> split <;> omega
    refine ⟨.ref a, rfl, _, rfl, a, ns, 0 + (j : Int), rfl, s0.seq hS, by omega, by omega, fun b H1 nb s1 hB k1 => ?_⟩
    have keep : ∀ {G : Hp}, SX b H1 G → Same H G := fun x c o hc => x c o (ne_of_none (s0 _ _ hc) nb) (s1 _ _ (s0 _ _ hc))
    refine ⟨8, rfl, by decide, by decide, ?_⟩
    refine for_range (lo := 0) (n := 8) (fun i σ H' => ∃ y3 y4 y5 y6, σ = [some (.ref a), some (.int (0 + (j : Int))), some (.ref b), y3, y4, y5, y6] ∧ SX b H1 H' ∧ Box H' b (300 * i)) ?_ ?_ ?_
    · exact ⟨_, _, _, _, rfl, .refl b H1, hB⟩
    · rintro i σ H2 hi ⟨y3, y4, y5, y6, rfl, x2, hB2⟩
      refine ⟨.ref b, rfl, b, 300 * i, rfl, hB2, by omega, fun t a2 H3 ns3 p p2 et ea2 ok hv hl nab hB3 x3 => ?_⟩
      refine ⟨t, _, rfl, SqT.of et, rfl, _, _, rfl, _, _, rfl, _, _, rfl, rfl, ?_⟩
      refine ⟨_, rfl, _, rfl, _, rfl, _, rfl, b, a2, ns3, 300 * i + 100, p, p2, rfl, hB3, by omega, ea2, ok, hv, hl, nab, fun H4 hB4 x4 => ?_⟩
      exact ⟨true, rfl, iteF ⟨_, _, _, _, rfl, (x2.trans x3).trans x4, hB4.le (by omega)⟩⟩
    rintro σ H3 ⟨y3, y4, y5, y6, rfl, x3, hB3⟩
    exact ⟨_, _, _, _, _, _, rfl, keep x3⟩
end
end K06

namespace K06
open PySem PySem.Spec PyProof.Rows L2 MG
theorem all_mk {l : PySem.W.OpenLaw} {w : World} {K : PySem.W.Frag} {h : Heap} {mg : Str → Option Value} {fa : Addr} (X : K.In h) (G : h.Ns mainGlobals mg) (hfa : mg "law" = some (.ref fa))
    {fTwosIn : Addr} {odTwosIn anTwosIn : Option Addr} {slTwosIn : Array (Option Value)} {ocTwosIn kVTwosIn dcTwosIn pmTwosIn cdTwosIn ctTwosIn : Value}
    (aTwosIn : PySem.W.nsIn K mainGlobals "twos_in" = some (some (.ref fTwosIn))) (lTwosIn : K.lookup fTwosIn = some ⟨ocTwosIn, odTwosIn, .func (PySem.W.fnOf "twos_in" "twos_in" (defArgs sTwosIn) (defBody sTwosIn) (defScope sTwosIn) .none kVTwosIn dcTwosIn pmTwosIn anTwosIn cdTwosIn ctTwosIn), slTwosIn⟩) (cTwosIn : PySem.W.codeIn K cdTwosIn "twos_in" = true) (kTwosIn : PySem.W.keepIn K (.ref fTwosIn) = true)
    {fOddPart : Addr} {odOddPart anOddPart : Option Addr} {slOddPart : Array (Option Value)} {ocOddPart kVOddPart dcOddPart pmOddPart cdOddPart ctOddPart : Value}
    (aOddPart : PySem.W.nsIn K mainGlobals "odd_part" = some (some (.ref fOddPart))) (lOddPart : K.lookup fOddPart = some ⟨ocOddPart, odOddPart, .func (PySem.W.fnOf "odd_part" "odd_part" (defArgs sOddPart) (defBody sOddPart) (defScope sOddPart) .none kVOddPart dcOddPart pmOddPart anOddPart cdOddPart ctOddPart), slOddPart⟩) (cOddPart : PySem.W.codeIn K cdOddPart "odd_part" = true) (kOddPart : PySem.W.keepIn K (.ref fOddPart) = true)
    {fCommon : Addr} {odCommon anCommon : Option Addr} {slCommon : Array (Option Value)} {ocCommon kVCommon dcCommon pmCommon cdCommon ctCommon : Value}
    (aCommon : PySem.W.nsIn K mainGlobals "common_part" = some (some (.ref fCommon))) (lCommon : K.lookup fCommon = some ⟨ocCommon, odCommon, .func (PySem.W.fnOf "common_part" "common_part" (defArgs sCommon) (defBody sCommon) (defScope sCommon) .none kVCommon dcCommon pmCommon anCommon cdCommon ctCommon), slCommon⟩) (cCommon : PySem.W.codeIn K cdCommon "common_part" = true) (kCommon : PySem.W.keepIn K (.ref fCommon) = true)
    {fWhole : Addr} {odWhole anWhole : Option Addr} {slWhole : Array (Option Value)} {ocWhole kVWhole dcWhole pmWhole cdWhole ctWhole : Value}
    (aWhole : PySem.W.nsIn K mainGlobals "is_whole" = some (some (.ref fWhole))) (lWhole : K.lookup fWhole = some ⟨ocWhole, odWhole, .func (PySem.W.fnOf "is_whole" "is_whole" (defArgs sWhole) (defBody sWhole) (defScope sWhole) .none kVWhole dcWhole pmWhole anWhole cdWhole ctWhole), slWhole⟩) (cWhole : PySem.W.codeIn K cdWhole "is_whole" = true) (kWhole : PySem.W.keepIn K (.ref fWhole) = true)
    {fHas : Addr} {odHas anHas : Option Addr} {slHas : Array (Option Value)} {ocHas kVHas dcHas pmHas cdHas ctHas : Value}
    (aHas : PySem.W.nsIn K mainGlobals "has_something" = some (some (.ref fHas))) (lHas : K.lookup fHas = some ⟨ocHas, odHas, .func (PySem.W.fnOf "has_something" "has_something" (defArgs sHas) (defBody sHas) (defScope sHas) .none kVHas dcHas pmHas anHas cdHas ctHas), slHas⟩) (cHas : PySem.W.codeIn K cdHas "has_something" = true) (kHas : PySem.W.keepIn K (.ref fHas) = true)
    {fAre : Addr} {odAre anAre : Option Addr} {slAre : Array (Option Value)} {ocAre kVAre dcAre pmAre cdAre ctAre : Value}
    (aAre : PySem.W.nsIn K mainGlobals "are_two_holders" = some (some (.ref fAre))) (lAre : K.lookup fAre = some ⟨ocAre, odAre, .func (PySem.W.fnOf "are_two_holders" "are_two_holders" (defArgs sAre) (defBody sAre) (defScope sAre) .none kVAre dcAre pmAre anAre cdAre ctAre), slAre⟩) (cAre : PySem.W.codeIn K cdAre "are_two_holders" = true) (kAre : PySem.W.keepIn K (.ref fAre) = true)
    {fEnded : Addr} {odEnded anEnded : Option Addr} {slEnded : Array (Option Value)} {ocEnded kVEnded dcEnded pmEnded cdEnded ctEnded : Value}
    (aEnded : PySem.W.nsIn K mainGlobals "ended_by" = some (some (.ref fEnded))) (lEnded : K.lookup fEnded = some ⟨ocEnded, odEnded, .func (PySem.W.fnOf "ended_by" "ended_by" (defArgs sEnded) (defBody sEnded) (defScope sEnded) .none kVEnded dcEnded pmEnded anEnded cdEnded ctEnded), slEnded⟩) (cEnded : PySem.W.codeIn K cdEnded "ended_by" = true) (kEnded : PySem.W.keepIn K (.ref fEnded) = true)
    {fIsRun : Addr} {odIsRun anIsRun : Option Addr} {slIsRun : Array (Option Value)} {ocIsRun kVIsRun dcIsRun pmIsRun cdIsRun ctIsRun : Value}
    (aIsRun : PySem.W.nsIn K mainGlobals "is_run_of_two" = some (some (.ref fIsRun))) (lIsRun : K.lookup fIsRun = some ⟨ocIsRun, odIsRun, .func (PySem.W.fnOf "is_run_of_two" "is_run_of_two" (defArgs sIsRun) (defBody sIsRun) (defScope sIsRun) .none kVIsRun dcIsRun pmIsRun anIsRun cdIsRun ctIsRun), slIsRun⟩) (cIsRun : PySem.W.codeIn K cdIsRun "is_run_of_two" = true) (kIsRun : PySem.W.keepIn K (.ref fIsRun) = true)
    {fMay : Addr} {odMay anMay : Option Addr} {slMay : Array (Option Value)} {ocMay kVMay dcMay pmMay cdMay ctMay : Value}
    (aMay : PySem.W.nsIn K mainGlobals "may_run" = some (some (.ref fMay))) (lMay : K.lookup fMay = some ⟨ocMay, odMay, .func (PySem.W.fnOf "may_run" "may_run" (defArgs sMay) (defBody sMay) (defScope sMay) .none kVMay dcMay pmMay anMay cdMay ctMay), slMay⟩) (cMay : PySem.W.codeIn K cdMay "may_run" = true) (kMay : PySem.W.keepIn K (.ref fMay) = true)
    {fDbl : Addr} {odDbl anDbl : Option Addr} {slDbl : Array (Option Value)} {ocDbl kVDbl dcDbl pmDbl cdDbl ctDbl : Value}
    (aDbl : PySem.W.nsIn K mainGlobals "doubled_by_rests" = some (some (.ref fDbl))) (lDbl : K.lookup fDbl = some ⟨ocDbl, odDbl, .func (PySem.W.fnOf "doubled_by_rests" "doubled_by_rests" (defArgs sDbl) (defBody sDbl) (defScope sDbl) .none kVDbl dcDbl pmDbl anDbl cdDbl ctDbl), slDbl⟩) (cDbl : PySem.W.codeIn K cdDbl "doubled_by_rests" = true) (kDbl : PySem.W.keepIn K (.ref fDbl) = true)
    {fRan : Addr} {odRan anRan : Option Addr} {slRan : Array (Option Value)} {ocRan kVRan dcRan pmRan cdRan ctRan : Value}
    (aRan : PySem.W.nsIn K mainGlobals "ran" = some (some (.ref fRan))) (lRan : K.lookup fRan = some ⟨ocRan, odRan, .func (PySem.W.fnOf "ran" "ran" (defArgs sRan) (defBody sRan) (defScope sRan) .none kVRan dcRan pmRan anRan cdRan ctRan), slRan⟩) (cRan : PySem.W.codeIn K cdRan "ran" = true) (kRan : PySem.W.keepIn K (.ref fRan) = true)
    {fBox : Addr} {odBox anBox : Option Addr} {slBox : Array (Option Value)} {ocBox kVBox dcBox pmBox cdBox ctBox : Value}
    (aBox : PySem.W.nsIn K mainGlobals "_law_box" = some (some (.ref fBox))) (lBox : K.lookup fBox = some ⟨ocBox, odBox, .func (PySem.W.fnOf "_law_box" "_law_box" (defArgs sBox) (defBody sBox) (defScope sBox) .none kVBox dcBox pmBox anBox cdBox ctBox), slBox⟩) (cBox : PySem.W.codeIn K cdBox "_law_box" = true) (kBox : PySem.W.keepIn K (.ref fBox) = true)
    {fTake : Addr} {odTake anTake : Option Addr} {slTake : Array (Option Value)} {ocTake kVTake dcTake pmTake cdTake ctTake : Value}
    (aTake : PySem.W.nsIn K mainGlobals "_law_take" = some (some (.ref fTake))) (lTake : K.lookup fTake = some ⟨ocTake, odTake, .func (PySem.W.fnOf "_law_take" "_law_take" (defArgs sTake) (defBody sTake) (defScope sTake) .none kVTake dcTake pmTake anTake cdTake ctTake), slTake⟩) (cTake : PySem.W.codeIn K cdTake "_law_take" = true) (kTake : PySem.W.keepIn K (.ref fTake) = true)
    {fOf : Addr} {odOf anOf : Option Addr} {slOf : Array (Option Value)} {ocOf kVOf dcOf pmOf cdOf ctOf : Value}
    (aOf : PySem.W.nsIn K mainGlobals "_law_of" = some (some (.ref fOf))) (lOf : K.lookup fOf = some ⟨ocOf, odOf, .func (PySem.W.fnOf "_law_of" "_law_of" (defArgs sOf) (defBody sOf) (defScope sOf) .none kVOf dcOf pmOf anOf cdOf ctOf), slOf⟩) (cOf : PySem.W.codeIn K cdOf "_law_of" = true) (kOf : PySem.W.keepIn K (.ref fOf) = true)
    {fLDbl : Addr} {odLDbl anLDbl : Option Addr} {slLDbl : Array (Option Value)} {ocLDbl kVLDbl dcLDbl pmLDbl cdLDbl ctLDbl : Value}
    (aLDbl : PySem.W.nsIn K mainGlobals "_law_doubled" = some (some (.ref fLDbl))) (lLDbl : K.lookup fLDbl = some ⟨ocLDbl, odLDbl, .func (PySem.W.fnOf "_law_doubled" "_law_doubled" (defArgs sLDbl) (defBody sLDbl) (defScope sLDbl) .none kVLDbl dcLDbl pmLDbl anLDbl cdLDbl ctLDbl), slLDbl⟩) (cLDbl : PySem.W.codeIn K cdLDbl "_law_doubled" = true) (kLDbl : PySem.W.keepIn K (.ref fLDbl) = true)
    {fParts : Addr} {odParts anParts : Option Addr} {slParts : Array (Option Value)} {ocParts kVParts dcParts pmParts cdParts ctParts : Value}
    (aParts : PySem.W.nsIn K mainGlobals "_law_parts" = some (some (.ref fParts))) (lParts : K.lookup fParts = some ⟨ocParts, odParts, .func (PySem.W.fnOf "_law_parts" "_law_parts" (defArgs sParts) (defBody sParts) (defScope sParts) .none kVParts dcParts pmParts anParts cdParts ctParts), slParts⟩) (cParts : PySem.W.codeIn K cdParts "_law_parts" = true) (kParts : PySem.W.keepIn K (.ref fParts) = true)
    {fTwo : Addr} {odTwo anTwo : Option Addr} {slTwo : Array (Option Value)} {ocTwo kVTwo dcTwo pmTwo cdTwo ctTwo : Value}
    (aTwo : PySem.W.nsIn K mainGlobals "_law_two" = some (some (.ref fTwo))) (lTwo : K.lookup fTwo = some ⟨ocTwo, odTwo, .func (PySem.W.fnOf "_law_two" "_law_two" (defArgs sTwo) (defBody sTwo) (defScope sTwo) .none kVTwo dcTwo pmTwo anTwo cdTwo ctTwo), slTwo⟩) (cTwo : PySem.W.codeIn K cdTwo "_law_two" = true) (kTwo : PySem.W.keepIn K (.ref fTwo) = true)
    {fLine : Addr} {odLine anLine : Option Addr} {slLine : Array (Option Value)} {ocLine kVLine dcLine pmLine cdLine ctLine : Value}
    (aLine : PySem.W.nsIn K mainGlobals "_law_line" = some (some (.ref fLine))) (lLine : K.lookup fLine = some ⟨ocLine, odLine, .func (PySem.W.fnOf "_law_line" "_law_line" (defArgs sLine) (defBody sLine) (defScope sLine) .none kVLine dcLine pmLine anLine cdLine ctLine), slLine⟩) (cLine : PySem.W.codeIn K cdLine "_law_line" = true) (kLine : PySem.W.keepIn K (.ref fLine) = true)
    {fBehind : Addr} {odBehind anBehind : Option Addr} {slBehind : Array (Option Value)} {ocBehind kVBehind dcBehind pmBehind cdBehind ctBehind : Value}
    (aBehind : PySem.W.nsIn K mainGlobals "_law_behind" = some (some (.ref fBehind))) (lBehind : K.lookup fBehind = some ⟨ocBehind, odBehind, .func (PySem.W.fnOf "_law_behind" "_law_behind" (defArgs sBehind) (defBody sBehind) (defScope sBehind) .none kVBehind dcBehind pmBehind anBehind cdBehind ctBehind), slBehind⟩) (cBehind : PySem.W.codeIn K cdBehind "_law_behind" = true) (kBehind : PySem.W.keepIn K (.ref fBehind) = true)
    {fRight : Addr} {odRight anRight : Option Addr} {slRight : Array (Option Value)} {ocRight kVRight dcRight pmRight cdRight ctRight : Value}
    (aRight : PySem.W.nsIn K mainGlobals "_law_right" = some (some (.ref fRight))) (lRight : K.lookup fRight = some ⟨ocRight, odRight, .func (PySem.W.fnOf "_law_right" "_law_right" (defArgs sRight) (defBody sRight) (defScope sRight) .none kVRight dcRight pmRight anRight cdRight ctRight), slRight⟩) (cRight : PySem.W.codeIn K cdRight "_law_right" = true) (kRight : PySem.W.keepIn K (.ref fRight) = true)
    {fLaw : Addr} {odLaw anLaw : Option Addr} {slLaw : Array (Option Value)} {ocLaw kVLaw dcLaw pmLaw cdLaw ctLaw : Value}
    (aLaw : PySem.W.nsIn K mainGlobals "law" = some (some (.ref fLaw))) (lLaw : K.lookup fLaw = some ⟨ocLaw, odLaw, .func (PySem.W.fnOf "law" "law" (defArgs sLaw) (defBody sLaw) (defScope sLaw) .none kVLaw dcLaw pmLaw anLaw cdLaw ctLaw), slLaw⟩) (cLaw : PySem.W.codeIn K cdLaw "law" = true) (kLaw : PySem.W.keepIn K (.ref fLaw) = true)
    (z_len : PySem.W.nsIn K mainGlobals "len" = some none)
    (z_abs : PySem.W.nsIn K mainGlobals "abs" = some none)
    (z_int : PySem.W.nsIn K mainGlobals "int" = some none)
    (z_bool : PySem.W.nsIn K mainGlobals "bool" = some none)
    (z_isinstance : PySem.W.nsIn K mainGlobals "isinstance" = some none)
    (z_range : PySem.W.nsIn K mainGlobals "range" = some none)
    (z_list : PySem.W.nsIn K mainGlobals "list" = some none)
    (z_tuple : PySem.W.nsIn K mainGlobals "tuple" = some none)
    (z_max : PySem.W.nsIn K mainGlobals "max" = some none)
    (z_min : PySem.W.nsIn K mainGlobals "min" = some none)
    (z_repr : PySem.W.nsIn K mainGlobals "repr" = some none)
    (z_zip : PySem.W.nsIn K mainGlobals "zip" = some none)
    : ∃ fd : FuncData, (∀ (s : Shared) (v : Value), BindsTo s fd ⟨[v], []⟩ [("_law_script", v)]) ∧ ∀ base : Heap, K.In base → base.Ns mainGlobals mg → SysD base → FnG l.prog w K mg base 8 fa fd ["_law_script"] (spLaw K) := by
  have e := hfa.symm.trans (PySem.W.mg_of X G aLaw)
  cases e
  have FTwosIn := fun_mk (st := sTwosIn) lTwosIn cTwosIn kTwosIn
  have bTwosIn := FTwosIn.binds (ps := ["n"]) fun _ _ _ _ _ _ us hl => match us, hl with | [_], _ => rfl
  have gTwosIn := PySem.W.mg_of X G aTwosIn
  have FOddPart := fun_mk (st := sOddPart) lOddPart cOddPart kOddPart
  have bOddPart := FOddPart.binds (ps := ["n"]) fun _ _ _ _ _ _ us hl => match us, hl with | [_], _ => rfl
  have gOddPart := PySem.W.mg_of X G aOddPart
  have FCommon := fun_mk (st := sCommon) lCommon cCommon kCommon
  have bCommon := FCommon.binds (ps := ["a", "b"]) fun _ _ _ _ _ _ us hl => match us, hl with | [_, _], _ => rfl
  have gCommon := PySem.W.mg_of X G aCommon
  have FWhole := fun_mk (st := sWhole) lWhole cWhole kWhole
  have bWhole := FWhole.binds (ps := ["thing"]) fun _ _ _ _ _ _ us hl => match us, hl with | [_], _ => rfl
  have gWhole := PySem.W.mg_of X G aWhole
  have FHas := fun_mk (st := sHas) lHas cHas kHas
  have bHas := FHas.binds (ps := ["row", "place"]) fun _ _ _ _ _ _ us hl => match us, hl with | [_, _], _ => rfl
  have gHas := PySem.W.mg_of X G aHas
  have FAre := fun_mk (st := sAre) lAre cAre kAre
  have bAre := FAre.binds (ps := ["row", "i", "j"]) fun _ _ _ _ _ _ us hl => match us, hl with | [_, _, _], _ => rfl
  have gAre := PySem.W.mg_of X G aAre
  have FEnded := fun_mk (st := sEnded) lEnded cEnded kEnded
  have bEnded := FEnded.binds (ps := ["row", "i", "j"]) fun _ _ _ _ _ _ us hl => match us, hl with | [_, _, _], _ => rfl
  have gEnded := PySem.W.mg_of X G aEnded
  have FIsRun := fun_mk (st := sIsRun) lIsRun cIsRun kIsRun
  have bIsRun := FIsRun.binds (ps := ["row", "thing"]) fun _ _ _ _ _ _ us hl => match us, hl with | [_, _], _ => rfl
  have gIsRun := PySem.W.mg_of X G aIsRun
  have FMay := fun_mk (st := sMay) lMay cMay kMay
  have bMay := FMay.binds (ps := ["row", "run"]) fun _ _ _ _ _ _ us hl => match us, hl with | [_, _], _ => rfl
  have gMay := PySem.W.mg_of X G aMay
  have FDbl := fun_mk (st := sDbl) lDbl cDbl kDbl
  have bDbl := FDbl.binds (ps := ["amount", "times", "whole"]) fun _ _ _ _ _ _ us hl => match us, hl with | [_, _, _], _ => rfl
  have gDbl := PySem.W.mg_of X G aDbl
  have FRan := fun_mk (st := sRan) lRan cRan kRan
  have bRan := FRan.binds (ps := ["row", "run"]) fun _ _ _ _ _ _ us hl => match us, hl with | [_, _], _ => rfl
  have gRan := PySem.W.mg_of X G aRan
  have FBox := fun_mk (st := sBox) lBox cBox kBox
  have bBox := FBox.binds (ps := ["_law_script", "_law_k"]) fun _ _ _ _ _ _ us hl => match us, hl with | [_, _], _ => rfl
  have gBox := PySem.W.mg_of X G aBox
  have FTake := fun_mk (st := sTake) lTake cTake kTake
  have bTake := FTake.binds (ps := ["_law_box_here", "_law_many"]) fun _ _ _ _ _ _ us hl => match us, hl with | [_, _], _ => rfl
  have gTake := PySem.W.mg_of X G aTake
  have FOf := fun_mk (st := sOf) lOf cOf kOf
  have bOf := FOf.binds (ps := ["_law_box_here", "_law_some"]) fun _ _ _ _ _ _ us hl => match us, hl with | [_, _], _ => rfl
  have gOf := PySem.W.mg_of X G aOf
  have FLDbl := fun_mk (st := sLDbl) lLDbl cLDbl kLDbl
  have bLDbl := FLDbl.binds (ps := ["_law_amount", "_law_many", "_law_both"]) fun _ _ _ _ _ _ us hl => match us, hl with | [_, _, _], _ => rfl
  have gLDbl := PySem.W.mg_of X G aLDbl
  have FParts := fun_mk (st := sParts) lParts cParts kParts
  have bParts := FParts.binds (ps := ["_law_first", "_law_second"]) fun _ _ _ _ _ _ us hl => match us, hl with | [_, _], _ => rfl
  have gParts := PySem.W.mg_of X G aParts
  have FTwo := fun_mk (st := sTwo) lTwo cTwo kTwo
  have bTwo := FTwo.binds (ps := ["_law_box_here"]) fun _ _ _ _ _ _ us hl => match us, hl with | [_], _ => rfl
  have gTwo := PySem.W.mg_of X G aTwo
  have FLine := fun_mk (st := sLine) lLine cLine kLine
  have bLine := FLine.binds (ps := ["_law_box_here"]) fun _ _ _ _ _ _ us hl => match us, hl with | [_], _ => rfl
  have gLine := PySem.W.mg_of X G aLine
  have FBehind := fun_mk (st := sBehind) lBehind cBehind kBehind
  have bBehind := FBehind.binds (ps := ["_law_here", "_law_one", "_law_two_here", "_law_many"]) fun _ _ _ _ _ _ us hl => match us, hl with | [_, _, _, _], _ => rfl
  have gBehind := PySem.W.mg_of X G aBehind
  have FRight := fun_mk (st := sRight) lRight cRight kRight
  have bRight := FRight.binds (ps := ["_law_box_here", "_law_here", "_law_one", "_law_two_here"]) fun _ _ _ _ _ _ us hl => match us, hl with | [_, _, _, _], _ => rfl
  have gRight := PySem.W.mg_of X G aRight
  have FLaw := fun_mk (st := sLaw) lLaw cLaw kLaw
  have m_len := PySem.W.mg_none_of X G z_len
  have m_abs := PySem.W.mg_none_of X G z_abs
  have m_int := PySem.W.mg_none_of X G z_int
  have m_bool := PySem.W.mg_none_of X G z_bool
  have m_isinstance := PySem.W.mg_none_of X G z_isinstance
  have m_range := PySem.W.mg_none_of X G z_range
  have m_list := PySem.W.mg_none_of X G z_list
  have m_tuple := PySem.W.mg_none_of X G z_tuple
  have m_max := PySem.W.mg_none_of X G z_max
  have m_min := PySem.W.mg_none_of X G z_min
  have m_repr := PySem.W.mg_none_of X G z_repr
  have m_zip := PySem.W.mg_none_of X G z_zip
  refine ⟨PySem.W.fnOf "law" "law" (defArgs sLaw) (defBody sLaw) (defScope sLaw) .none kVLaw dcLaw pmLaw anLaw cdLaw ctLaw, fun s v => .of_eq rfl, fun base _ _ sys => ?_⟩
  have GHas := ok_has (P := l.prog) (w := w) (base := base) (k := 0) FHas FWhole bWhole gWhole m_isinstance m_int m_bool m_len
  have GAre := ok_are (P := l.prog) (w := w) (base := base) (k := 0) FAre FHas bHas gHas GHas
  have GEnded := ok_ended (P := l.prog) (w := w) (base := base) (k := 0) FEnded FCommon bCommon gCommon FOddPart bOddPart gOddPart FTwosIn bTwosIn gTwosIn
  have GIsRun := ok_isRun (P := l.prog) (w := w) (base := base) (k := 0) FIsRun FAre bAre gAre GAre FWhole bWhole gWhole m_isinstance m_int m_bool m_tuple m_len
  have GMay := ok_may (P := l.prog) (w := w) (base := base) (k := 0) FMay FIsRun bIsRun gIsRun GIsRun FEnded bEnded gEnded GEnded
  have GRan := ok_ran (P := l.prog) (w := w) (base := base) (k := 0) FRan FMay bMay gMay GMay FDbl bDbl gDbl m_list m_tuple
  have GBox := ok_box (P := l.prog) (w := w) (base := base) (k := 0) FBox m_len m_abs m_int
  have GParts := ok_parts (mg := mg) (P := l.prog) (w := w) (base := base) (k := 0) FParts
  have GBehind := ok_behind (P := l.prog) (w := w) (base := base) (k := 0) FBehind FLDbl bLDbl gLDbl m_list m_tuple
  have GTwo := ok_two (P := l.prog) (w := w) (base := base) (k := 0) FTwo FTake bTake gTake FOf bOf gOf m_len
  have GLine := ok_line (P := l.prog) (w := w) (base := base) (k := 0) FLine FTake bTake gTake FTwo bTwo gTwo GTwo m_len m_list m_tuple m_range m_zip
  have GRight := ok_right (P := l.prog) (w := w) (base := base) (k := 0) sys FRight FTake bTake gTake FParts bParts gParts GParts FEnded bEnded gEnded GEnded FMay bMay gMay GMay FRan bRan gRan GRan FBehind bBehind gBehind GBehind m_repr
  exact ok_law (k := 0) FLaw FBox bBox gBox GBox FRight bRight gRight GRight FLine bLine gLine GLine m_len m_max m_min m_range
end K06
open PySem PySem.W PyProof.Rows
set_option maxHeartbeats 0 in
theorem PySem.Challenge.cw_matchgift_k06_runs_of_thousands_holds : PySem.Challenge.rw_matchgift_k06_runs_of_thousands.Holds := by
  w_on; o_law; k_head; (case hw => w_witness2)
  k_fill
  refine MG.walkG (l := PySem.Challenge.rw_matchgift_k06_runs_of_thousands) (n := 63) (k := 8) (x := "_law_script") (sp := K06.spLaw) rfl (by decide) rfl ⟨rfl, by decide, by decide⟩ (by decide +kernel) (fun w h Y => PySem.W.kIn_of Y) ?F (fun _ _ a ns hl _ hS => ⟨a, ns, rfl, hS, hl, fun _ => rfl⟩)
  case F =>
    intro w mg fa h KX G hmg
    refine' K06.all_mk KX G hmg ?aTwosIn ?lTwosIn ?cTwosIn ?kTwosIn ?aOddPart ?lOddPart ?cOddPart ?kOddPart ?aCommon ?lCommon ?cCommon ?kCommon ?aWhole ?lWhole ?cWhole ?kWhole ?aHas ?lHas ?cHas ?kHas ?aAre ?lAre ?cAre ?kAre ?aEnded ?lEnded ?cEnded ?kEnded ?aIsRun ?lIsRun ?cIsRun ?kIsRun ?aMay ?lMay ?cMay ?kMay ?aDbl ?lDbl ?cDbl ?kDbl ?aRan ?lRan ?cRan ?kRan ?aBox ?lBox ?cBox ?kBox ?aTake ?lTake ?cTake ?kTake ?aOf ?lOf ?cOf ?kOf ?aLDbl ?lLDbl ?cLDbl ?kLDbl ?aParts ?lParts ?cParts ?kParts ?aTwo ?lTwo ?cTwo ?kTwo ?aLine ?lLine ?cLine ?kLine ?aBehind ?lBehind ?cBehind ?kBehind ?aRight ?lRight ?cRight ?kRight ?aLaw ?lLaw ?cLaw ?kLaw ?z_len ?z_abs ?z_int ?z_bool ?z_isinstance ?z_range ?z_list ?z_tuple ?z_max ?z_min ?z_repr ?z_zip
    (case aTwosIn => k_is); (case lTwosIn => k_is); (case cTwosIn => k_is); (case kTwosIn => k_is); (case aOddPart => k_is); (case lOddPart => k_is); (case cOddPart => k_is); (case kOddPart => k_is); (case aCommon => k_is); (case lCommon => k_is); (case cCommon => k_is); (case kCommon => k_is); (case aWhole => k_is); (case lWhole => k_is); (case cWhole => k_is); (case kWhole => k_is); (case aHas => k_is); (case lHas => k_is); (case cHas => k_is); (case kHas => k_is); (case aAre => k_is); (case lAre => k_is); (case cAre => k_is); (case kAre => k_is); (case aEnded => k_is); (case lEnded => k_is); (case cEnded => k_is); (case kEnded => k_is); (case aIsRun => k_is); (case lIsRun => k_is); (case cIsRun => k_is); (case kIsRun => k_is); (case aMay => k_is); (case lMay => k_is); (case cMay => k_is); (case kMay => k_is); (case aDbl => k_is); (case lDbl => k_is); (case cDbl => k_is); (case kDbl => k_is); (case aRan => k_is); (case lRan => k_is); (case cRan => k_is); (case kRan => k_is); (case aBox => k_is); (case lBox => k_is); (case cBox => k_is); (case kBox => k_is); (case aTake => k_is); (case lTake => k_is); (case cTake => k_is); (case kTake => k_is); (case aOf => k_is); (case lOf => k_is); (case cOf => k_is); (case kOf => k_is); (case aLDbl => k_is); (case lLDbl => k_is); (case cLDbl => k_is); (case kLDbl => k_is); (case aParts => k_is); (case lParts => k_is); (case cParts => k_is); (case kParts => k_is); (case aTwo => k_is); (case lTwo => k_is); (case cTwo => k_is); (case kTwo => k_is); (case aLine => k_is); (case lLine => k_is); (case cLine => k_is); (case kLine => k_is); (case aBehind => k_is); (case lBehind => k_is); (case cBehind => k_is); (case kBehind => k_is); (case aRight => k_is); (case lRight => k_is); (case cRight => k_is); (case kRight => k_is); (case aLaw => k_is); (case lLaw => k_is); (case cLaw => k_is); (case kLaw => k_is); (case z_len => k_is); (case z_abs => k_is); (case z_int => k_is); (case z_bool => k_is); (case z_isinstance => k_is); (case z_range => k_is); (case z_list => k_is); (case z_tuple => k_is); (case z_max => k_is); (case z_min => k_is); (case z_repr => k_is); (case z_zip => k_is)
